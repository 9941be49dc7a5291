import PyProof.Rows.All
import Wide.All
import OpenK.AllK
import Wide.FinOn
import HandS.ForMost
import HandS.More
import HandS.IsInst
import HandS.Walk
import HandS.Zip
import HandS.Defaults
import HandS.MakeKwOnly
import HandS.ExcInit
import KE.KExcInit
import KE.KExcIs
import HandS.Evl
import HandS.Style
import HandS.CallSlots
import HandS.TryOnly
import HandS.WordsExc
import KE.KTryMore
import HandS.TupAny
import HandS.Conv
import HandS.Ends
import HandS.SetFor
import HandS.TupSets
import HandS.DictComp
import HandS.Iter
import KE.KRevSl
import KE.GoesEnumKw
import KE.GoesMore
import HandS.SortInts
import PyProof.ListCopy
import PyProof.ReprLen
import PyProof.Rows.ReprOcc
import PyProof.StrLawsRepr
import HandS.DictTup
import KE.KeyNested
import KE.KDictDisplayH
import HandS.Deep
import HandS.Rev
import KE.GoesEnum
import KE.KDictZip
import PyProof.Rows.RuleDivmod
import HandS.TupMul
import HandS.Wide
import HandS.SortRule
import HandS.NoneIn
import HandS.SortKw
import HandS.NamedTupSort
import KE.DataMinMax
import KE.SortData
import KE.KDictWalk
import HandS.DictSubView
import HandS.TupLen
import KE.KDictSum
import PyProof.Rows.SetFrom
import HandS.Set
import KE.KSortKey
import HandS.Strs
import KE.KTupSum
import KE.KIndexOf
import PyProof.Rows.TupTab
import PyProof.DictRoadsH
import PyProof.DictMoreH
import KE.KDictKeyed
import OpenK.KOps
import HandS.FStr
import PyProof.InstNe
import HandS.Codes
import HandS.Text
import HandS.StrMore
import HandS.Steps
import KE.IntTextText
import KE.OsSetLaws
import PySem.Challenge.RW_overlooks_k12_texts
set_option Elab.async false
set_option linter.all false
set_option maxRecDepth 100000
set_option maxHeartbeats 4000000
/-! exceptions of the program's own classes as values -/
namespace OvX
open PySem PySem.W PySem.Calls PyProof.Rows PySem.HandSPX PySem.Builtin PySem.Builtin.ObjectAttr
section
variable {M : Model} {prog : Program} {w : World} {A : Around} {E : Value → Shared → Prop} {R : Result → Shared → Prop} {h : Heap} {g : Array GenState} {d : Drawn} {t : Nat} {os : OsState}
variable {nm q : Str} {C N : Addr} {bs bm bmB : List Value} {hdct : Bool} {sn : List Str} {sub : List Value} {ab : Bool} {col : Option Bool} {dd : Option Addr} {k0 k1 k2 k3 k5 : Option Value} {B newId initId : String}
theorem newCheck (F : ExcBaseFacts B newId initId bmB) (hT : ∀ X : String, bm.contains (.type X) = bmB.contains (.type X)) {rest : List Value} {kw : List (Str × Value)} {Q : Unit → Shared → Prop}
    (hC : h.get? C = some (excClassObj nm q C N bs bm hdct sn sub ab col dd k0 k1 k2 k3 k5 newId)) (hq : Q () ⟨h, g, d, t, os⟩) : wpAny M A (checkBuiltinCall newId ⟨.ref C :: rest, kw⟩) Q E ⟨h, g, d, t, os⟩ := by
  have hB : (Value.ref C :: bm).contains (.type B) = true := by rw [List.contains_cons, hT, F.hasB, Bool.or_true]
  have hstar := F.noStar
  simp only [checkBuiltinCall, F.newKind, F.newSplit, F.newRow]
  repeat (first
    | refine wpAny_loadPart_at hC ?_
    | (refine wpAny_isSubtype_exc hC ?_; rw [hB])
    | refine wpAny_staticBase_exc hC ?_
    | refine wpAny_madeBy_exc hC ?_
    | simp only [bne_self_eq_false, Bool.false_eq_true, if_false]
    | wp_step)
  all_goals exact hq
theorem newMade (F : ExcBaseFacts B newId initId bmB) (hT : ∀ X : String, bm.contains (.type X) = bmB.contains (.type X)) {rest : List Value} {kw : List (Str × Value)}
    (hC : h.get? C = some (excClassObj nm q C N bs bm hdct sn sub ab col dd k0 k1 k2 k3 k5 newId)) (hz : rest.length ≤ sizeLine)
    (hq : R (.ok (.ret (.ref (h.objs.size + 1)))) ⟨(h.push (kdv_tup rest)).push (excO C h.objs.size), g, d, t, os⟩) :
    codeAny (model prog w) A (.builtin newId ⟨.ref C :: rest, kw⟩) R ⟨h, g, d, t, os⟩ := by
  have hE := F.ends
  have hB : (Value.ref C :: bm).contains (.type B) = true := by rw [List.contains_cons, hT, F.hasB, Bool.or_true]
  have hA : (Value.ref C :: bm).contains (.type "AttributeError") = false := by rw [List.contains_cons, hT, F.noAttr]; rfl
  have hN : (Value.ref C :: bm).contains (.type "NameError") = false := by rw [List.contains_cons, hT, F.noName]; rfl
  refine codeAny_builtinAt F.entry ?_
  unfold Builtin.«BaseException.__new__»
  refine PySem.wpAt_bind ?_
  show PySem.wpAt _ _ _ (stack >>= _) _ _ _
  refine PySem.wpAt_bind (PySem.wpAt_stack fun p below => PySem.wpAt_of_wpAny ?_)
  wp_walk
  refine PySem.wpAt_of_wpAny ?_
  rw [F.owner]
  repeat (first
    | with_reducible refine wpAny_madeHere_exc F.canon hC ?_
    | with_reducible refine wpAny_loadPart_at hC ?_
    | (with_reducible refine wpAny_isSubtype_exc hC ?_; first | rw [hB] | rw [hA] | rw [hN])
    | wp_step)
  show R _ _
  rw [Heap.size_push]
  exact hq
theorem typeCall (F : ExcBaseFacts B newId initId bmB) (hT : ∀ X : String, bm.contains (.type X) = bmB.contains (.type X)) {rest : List Value} {kw : List (Str × Value)} {fI : Addr} {Q : Fin → Shared → Prop}
    (hC : h.get? C = some (excClassObj nm q C N bs bm hdct sn sub ab col dd k0 k1 k2 k3 k5 newId))
    (hi : Looks (model prog w) h (typeLookup (.ref C) "__init__") (some (.ref fI))) (hb : ∀ self, Looks (model prog w) h (bindSpecial (.ref fI) self) (.ref fI, [self])) (hz : rest.length ≤ sizeLine)
    (hq : codeAny (model prog w) A (.call (.ref fI) ⟨.ref (h.objs.size + 1) :: rest, kw⟩)
      (fun r s' => match r with | .ok (.ret v) => v = .none ∧ Q (.done (.ret (.ref (h.objs.size + 1)))) s' | .ok _ => False | .error e => E e s')
      ⟨(h.push (kdv_tup rest)).push (excO C h.objs.size), g, d, t, os⟩) :
    wpAny (model prog w) A (Builtin.«type.__call__» ⟨.ref C :: rest, kw⟩) Q E ⟨h, g, d, t, os⟩ := by
  repeat (first
    | with_reducible refine wpAny_loadPart_at hC ?_
    | with_reducible refine wpAny_madeBy_exc hC ?_
    | wp_step)
  refine codeAny_call_builtin_code (Code.quiet_builtin _ F.quiet) (newCheck F hT hC ?_)
  refine newMade F hT hC hz ?_
  show wpAny _ _ _ _ _ _
  have k : ∀ b o, h.get? b = some o → ((h.push (kdv_tup rest)).push (excO C h.objs.size)).get? b = some o := fun b o e => Heap.get?_push_of_some _ (Heap.get?_push_of_some _ e)
  have hC1 := k _ _ hC
  have hg : ((h.push (kdv_tup rest)).push (excO C h.objs.size)).get? (h.objs.size + 1) = some (excO C h.objs.size) := by heap_get
  have hcC : (Value.ref C :: bm).contains (.ref C) = true := by simp
  have i1 := hi.keeps k
  have b1 := (hb (.ref (h.objs.size + 1))).keeps k
  unfold isInstance
  repeat (first
    | with_reducible refine wpAny_loadPart_at hg ?_
    | (with_reducible refine wpAny_isSubtype_exc hC1 ?_; rw [hcC])
    | wp_step)
  show wpAny _ _ (typeLookup (.ref C) _) _ _ _
  refine i1.at ?_
  refine wpAny_holding (wpAny_bind (b1.at ?_))
  refine wpAny_bind (wpAny_call (codeAny_mono hq fun r s' z => ?_))
  rcases r with e | (v | _ | _ | _) <;> first | exact z | exact z.elim | skip
  obtain ⟨rfl, z⟩ := z
  first
    | exact wpAny_pure (wpAny_pure z)
    | (wp_walk; exact z)
theorem typeCheck {rest : List Value} {kw : List (Str × Value)} {Q : Unit → Shared → Prop} (hC : h.get? C = some (excClassObj nm q C N bs bm hdct sn sub ab col dd k0 k1 k2 k3 k5 newId))
    (hq : Q () ⟨h, g, d, t, os⟩) : wpAny M A (checkBuiltinCall "type.__call__" ⟨.ref C :: rest, kw⟩) Q E ⟨h, g, d, t, os⟩ := by
  have f3 := tc_sub
  have hT : (⟨h, g, d, t, os⟩ : Shared).TypeIs (.ref C) "type" := ⟨_, hC, rfl⟩
  simp only [checkBuiltinCall, tc_kind, tc_split]
  repeat (any_goals (first
    | assumption
    | with_reducible refine wpAny_loadPart_at hC ?_
    | with_reducible refine wpAny_onRaise ?_
    | with_reducible refine wpAny_map ?_
    | wp_step))
  all_goals trace_state
theorem callOwn (F : ExcBaseFacts B newId initId bmB) (hT : ∀ X : String, bm.contains (.type X) = bmB.contains (.type X)) {rest : List Value} {kw : List (Str × Value)} {fI : Addr}
    (hC : h.get? C = some (excClassObj nm q C N bs bm hdct sn sub ab col dd k0 k1 k2 k3 k5 newId))
    (hi : Looks (model prog w) h (typeLookup (.ref C) "__init__") (some (.ref fI))) (hb : ∀ self, Looks (model prog w) h (bindSpecial (.ref fI) self) (.ref fI, [self])) (hz : rest.length ≤ sizeLine)
    (hq : codeAny (model prog w) (A.under (.builtin "type.__call__" ⟨.ref C :: rest, kw⟩)) (.call (.ref fI) ⟨.ref (h.objs.size + 1) :: rest, kw⟩) (InitBack (h.objs.size + 1) R)
      ⟨(h.push (kdv_tup rest)).push (excO C h.objs.size), g, d, t, os⟩) :
    codeAny (model prog w) A (.call (.ref C) ⟨rest, kw⟩) R ⟨h, g, d, t, os⟩ := by
  have f1 := tc_lookup
  have f2 := tc_bind (.ref C)
  have hTy : (⟨h, g, d, t, os⟩ : Shared).TypeIs (.ref C) "type" := ⟨_, hC, rfl⟩
  refine codeAny_of_tree ?_
  show wpAny _ _ (callAny (.ref C) _) _ _ _
  repeat (any_goals (first
    | assumption
    | with_reducible refine wpAny_loadPart_at hC ?_
    | wp_step))
  refine ⟨rfl, ?_⟩
  refine codeAny_call_builtin_at (Code.quiet_builtin _ (by decide +kernel)) entry_typeCall (typeCheck hC (typeCall F hT hC hi hb hz ?_))
  refine codeAny_mono hq fun r s' z => ?_
  rcases r with e | (v | _ | _ | _) <;> exact z
end
/-- what the written part says of an own class of exceptions -/
structure ExK (K : Frag) (C : Addr) (bmB : List Value) (newId : String) : Prop where
  over : excOver K C bmB = true
  ini : excInitIn K C bmB newId = true
  sa : findIn K (.ref C) "__setattr__" = some (some (.builtin "object.__setattr__"))
  ga : findIn K (.ref C) "__getattribute__" = some (some (.builtin "BaseException.__getattribute__"))
  gg : findIn K (.ref C) "__getattr__" = some none
  exC : subIn K (.ref C) (.type "BaseException") = some true
  hd : hasDictIn K C = true
  kC : keepIn K (.ref C) = true
  ca : findIn K (.ref C) "__class__" = some (some (.builtin "object.__class__"))
  sp : specialIn K (.builtin "object.__class__") "__get__" = some (some (.builtin "getset_descriptor.__get__"))
  tk : takesIn K (.builtin "object.__class__") = some true
  mr : mroIn K C (.type "object") = some true
section
variable {prog : Program} {w : World} {A : Around} {E : Value → Shared → Prop} {R : Result → Shared → Prop} {hp : Heap} {g : Array GenState} {d : Drawn} {t : Nat} {os : OsState} {B newId : String} {bmB : List Value} {K : Frag}
theorem firstStore (SF : StoreFacts B bmB "object.__setattr__" "object") {C x : Addr} (T : ExK K C bmB newId) {name : Str} {tk : Tok} {v : Value} {fv : Array Value} (X : K.In hp) (hx : hp.get? x = some { cls := .ref C, data := .fields fv }) (ha : findIn K (.ref C) name = some none)
    (hq : ∀ h' tk' dx, (∀ b o, b ≠ x → hp.get? b = some o → h'.get? b = some o) → hp.objs.size ≤ dx → dx ≠ x → h'.get? x = some { cls := .ref C, dict := some dx, data := .fields fv } →
      h'.Ns1 dx (fun y => if y = name then some v else none) → R (.ok (.ret .none)) ⟨h', g, d, tk', os⟩) :
    codeAny (model prog w) A (.call (.builtin "object.__setattr__") ⟨[.ref x, .str name tk, v], []⟩) R ⟨hp, g, d, t, os⟩ := by
  refine osa_openX (r := none) (s := ⟨hp, g, d, t, os⟩) SF X (ox := { cls := .ref C, data := .fields fv }) (od := none) ⟨hx, rfl, rfl, trivial⟩ T.over (by unfold takerIn; rw [ha]; rfl) (fun b => ?_)
  show wpAny _ _ (storeInOwnDict (.ref x) (.ref C) (.str name tk) name v b) _ _ _
  obtain ⟨cd, hcd, hh⟩ := any_some T.hd
  have hcls : Looks (model prog w) hp (classData C) cd := looks_clsIn X hcd
  have hxs : x ≠ hp.objs.size := Nat.ne_of_lt (Heap.lt_size hx)
  obtain ⟨nm, bs, mro, ns, qn, hdd, sn, sb, ab, col, del⟩ := cd
  dsimp only at hh
  subst hh
  unfold storeInOwnDict ownDictForStores
  repeat (first
    | with_reducible refine store_in_new ?_ ?_
    | with_reducible refine wpAny_loadPart_at hx ?_
    | with_reducible refine hcls.at ?_
    | wp_step)
  · exact ⟨_, #[], _, (Heap.get?_update_ne _ _ _ _ hxs.symm).trans (Heap.get?_push_at rfl rfl), rfl, fun e he => absurd he (by simp), fun _ => rfl⟩
  · intro h' tk' hn' hs
    have h1 : (hp.push { cls := .type "dict", data := .dict #[] }).get? x = some { cls := .ref C, data := .fields fv } := Heap.get?_push_of_some _ hx
    exact hq h' tk' hp.objs.size (fun b o hb ho => (hs.2 b (Nat.ne_of_lt (Heap.lt_size ho))).trans ((Heap.get?_update_ne _ _ _ _ hb).trans (Heap.get?_push_of_some _ ho))) (Nat.le_refl _) hxs.symm
      ((hs.2 x hxs).trans (Heap.get?_update_self _ h1 rfl)) hn'
end
end OvX
namespace Ov
open PySem L2
section
variable {X : Cx} {pins : List (Addr × Obj)} {σ : L2.St} {H : Hp} {s : Shared} {a C dx : Addr} {f : Str} {y : V} {u : Value} {fs : List (Str × V)} {B newId initId : String} {bmB : List Value}
/-- the first attribute of a new exception -/
theorem set_first {Q : Unit → Shared → Prop} {E : Value → Shared → Prop} {A : Around} (SF : PySem.StoreFacts B bmB "object.__setattr__" "object") (T : OvX.ExK X.K C bmB newId) (I : Inv X pins σ H s) (e : H a = some (exo a C none)) (hno : PySem.W.findIn X.K (.ref C) f = some none) (ry : RelV y u)
    (h : ∀ dx s', H dx = none → dx ≠ a → Inv X pins σ (upd (upd H dx (exd dx [(f, y)])) a (exo a C (some dx))) s' → Q () s') : wpAny (model X.prog X.w) A (setAttr (.ref a) f u) Q E s := by
  obtain ⟨t1, ho⟩ := exo_at I.hok e
  obtain ⟨hp, g, d, t, os⟩ := s
  refine PySem.W.set_plain I.kIn (ox := { cls := .ref C, dict := none, data := .fields #[.ref t1, .none, .none, .none, .bool false, .none] }) (od := none) ⟨ho, rfl, rfl, trivial⟩ T.sa ?_
  refine OvX.firstStore SF T I.kIn ho hno (fun h' tk' dx k dn dne hx hn => ?_)
  have hnd : H dx = none := I.hok.fresh dn
  have nd : ∀ {b : Addr} {o : Obj}, hp.get? b = some o → b ≠ dx := fun {b o} q => Nat.ne_of_lt (Nat.lt_of_lt_of_le (Heap.lt_size q) dn)
  have na : ∀ {b : Addr}, H b = none → b ≠ a := fun {b} n z => by
    rw [z, e] at n
    cases n
  have un : Un X.fs [] H (upd (upd H dx (exd dx [(f, y)])) a (exo a C (some dx))) hp h' := by
    refine ⟨fun b o q n _ _ => k b o (na n) q, fun b o q n _ _ => ⟨o.slots, k b o (na n) q⟩, fun b o q n _ => ?_, fun b o q _ => ?_, fun b xs q => ?_, fun b o v q => ?_, fun b ps q => ⟨#[], ?_⟩⟩
    · rw [upd_ne (na n), upd_ne (nd q)]
      exact n
    · by_cases hb : b = a
      · subst hb
        exact ⟨_, hx⟩
      · exact ⟨o, k b o hb q⟩
    · rw [upd_ne (at_ne e q exo_tup), upd_ne (ne_of_none q hnd)]
      exact q
    · rw [upd_ne (at_ne e q exo_frz), upd_ne (ne_of_none q hnd)]
      exact q
    · rw [upd_ne (at_ne e q exo_tbl), upd_ne (ne_of_none q hnd), q]
      simp
  refine h dx _ hnd dne (I.un (t' := tk') un fun b o q => ?_)
  by_cases hb : b = a
  · subst hb
    rw [upd_same] at q
    cases q
    exact exo_ok hx
  rw [upd_ne hb] at q
  by_cases hd : b = dx
  · subst hd
    rw [upd_same] at q
    cases q
    exact exd_ok hn (relO_put (fs := []) ry fun g => True.intro)
  rw [upd_ne hd] at q
  refine (I.hok b o q).stay (fun c v hc z => k c v ?_ z) (fun c hc => ?_) (fun c xs hc => ?_)
  · rcases hc with hc | hc
    · rw [hc]
      exact hb
    · exact at_ne e hc exo_own
  · rw [upd_ne (at_ne e hc exo_own), upd_ne (ne_of_none hc hnd)]
    exact hc
  · rw [upd_ne (at_ne e hc exo_tup), upd_ne (ne_of_none hc hnd)]
    exact hc
/-- self.f = e in an __init__ -/
def tSt1 (K : PySem.W.Frag) (bmB : List Value) (newId : String) (f : Str) (to te : TE) : TS := fun D σ H => te σ H fun y H1 => to σ H1 fun x H2 => ∃ a C : Addr, x = .ref a ∧ OvX.ExK K C bmB newId ∧ PySem.W.findIn K (.ref C) f = some none ∧
  H2 a = some (exo a C none) ∧ ∀ dx, H2 dx = none → dx ≠ a → D.nx σ (upd (upd H2 dx (exd dx [(f, y)])) a (exo a C (some dx)))
theorem ps_st1 {o e : Expr} {to te : TE} {p' pos : Pos} (SF : PySem.StoreFacts B bmB "object.__setattr__" "object") (ho : PE X o to) (he : PE X e te) (hs : swapsWith e (some (.Attribute o f p')) pos.line X.env = pure false := by rfl) :
    PS X (.Assign [.Attribute o f p'] e pos) (tSt1 X.K bmB newId f to te) := by
  refine ⟨fun pins s σ H D I h => ?_⟩
  refine plainObj_wpAny_Assign_Attribute (thn (he.run pins s σ H _ I h) fun v s1 ⟨y, H1, I1, r1, q1⟩ => thn (ho.run pins s1 σ H1 _ I1 q1) fun u s2 ⟨x, H2, I2, r2, a, C, ex, T, hno, ea, q⟩ => ?_) hs
  subst ex
  obtain rfl : u = Value.ref a := r2
  exact set_first SF T I2 ea hno r1 fun dx s' n ne J => ⟨σ, _, J, q dx n ne⟩
end
end Ov
set_option Elab.async false
set_option linter.all false
set_option maxRecDepth 100000
set_option maxHeartbeats 4000000
namespace Ov
open PySem L2
section
variable {X : Cx} {CX : CXT} {k n : Nat} {fI C : Addr} {fd : FuncData} {ps ks : List Str} {sp : Sp} {E : XK} {x : Str} {p pos : Pos} {e o : Expr} {es : List Expr} {kws : List Keyword} {t tk : TA} {te : TE} {g : List Value → List Value → List Value} {gV : List V → List V → List V} {B newId initId : String} {bmB : List Value}
/-- an exception of the class at C at a, with the attributes fs -/
def Exc (K : PySem.W.Frag) (H : Hp) (a C : Addr) (fs : List (Str × V)) : Prop := ∃ bmB newId, OvX.ExK K C bmB newId ∧ ((fs = [] ∧ H a = some (exo a C none)) ∨ ∃ dx, H a = some (exo a C (some dx)) ∧ H dx = some (exd dx fs))
theorem Exc.same {K : PySem.W.Frag} {H H' : Hp} {a C : Addr} {fs : List (Str × V)} (h : Exc K H a C fs) (s : Same H H') : Exc K H' a C fs := by
  obtain ⟨b, m, T, h⟩ := h
  rcases h with ⟨e, h⟩ | ⟨dx, h1, h2⟩
  · exact ⟨b, m, T, .inl ⟨e, s _ _ h⟩⟩
  · exact ⟨b, m, T, .inr ⟨dx, s _ _ h1, s _ _ h2⟩⟩
end
end Ov
set_option Elab.async false
set_option linter.all false
set_option maxRecDepth 100000
set_option maxHeartbeats 4000000
namespace Ov
open PySem L2
/-! heaps -/
def SameB (p : Addr) (H H' : Hp) : Prop := ∀ b o, b ≠ p → H b = some o → H' b = some o
theorem SameB.refl (p : Addr) (H : Hp) : SameB p H H := fun _ _ _ h => h
theorem SameB.trans {p : Addr} {H H1 H2 : Hp} (a : SameB p H H1) (b : SameB p H1 H2) : SameB p H H2 := fun c o n h => b c o n (a c o n h)
theorem SameB.of {p : Addr} {H H' : Hp} (a : Same H H') : SameB p H H' := fun c o _ h => a c o h
theorem same_new {H : Hp} {p : Addr} (h : H p = none) (o : HO) : Same H (upd H p o) := fun b u q => by rw [upd_ne (ne_of_none q h)]; exact q
def Bx (H : Hp) (p : Addr) (n : Int) : Prop := ∃ b0 b1 b2 : Int, H p = some (.lst [.int b0, .int b1, .int b2]) ∧ 0 ≤ b0 ∧ 0 ≤ b1 ∧ b1 < 2 ^ 62 ∧ 0 ≤ b2 ∧ b2 ≤ n
theorem Bx.mono {H : Hp} {p : Addr} {n m : Int} (h : Bx H p n) (e : n ≤ m) : Bx H p m := by
  obtain ⟨b0, b1, b2, h1, h2, h3, h4, h5, h6⟩ := h
  exact ⟨b0, b1, b2, h1, h2, h3, h4, h5, by omega⟩
theorem Bx.same {H H' : Hp} {p : Addr} {n : Int} (h : Bx H p n) (e : Same H H') : Bx H' p n := by
  obtain ⟨b0, b1, b2, h1, h2⟩ := h
  exact ⟨b0, b1, b2, e _ _ h1, h2⟩
theorem small {n : Nat} (h : n ≤ 1000) : n ≤ sizeLine := Nat.le_of_lt (small1000 h)
theorem same_refl (H : Hp) : Same H H := fun _ _ h => h
theorem smallB {n : Nat} (h : Nat.ble n 1000 = true) : n ≤ sizeLine := small (Nat.le_of_ble_eq_true h)
theorem Exc.mut {K : PySem.W.Frag} {H H' : Hp} {a C p : Addr} {fs : List (Str × V)} {xs : List V} (h : Exc K H a C fs) (hp : H p = some (.lst xs)) (s : SameB p H H') : Exc K H' a C fs := by
  obtain ⟨b, m, T, h⟩ := h
  have n1 : ∀ q d, exo q C d ≠ .lst xs := fun q d z => by
    have z' : HO.ext _ = HO.lst xs := z
    cases z'
  rcases h with ⟨e, h⟩ | ⟨dx, h1, h2⟩
  · exact ⟨b, m, T, .inl ⟨e, s _ _ (fun z => by rw [z, hp] at h; exact n1 _ _ (Option.some.inj h).symm) h⟩⟩
  · refine ⟨b, m, T, .inr ⟨dx, s _ _ (fun z => by rw [z, hp] at h1; exact n1 _ _ (Option.some.inj h1).symm) h1, s _ _ (fun z => ?_) h2⟩⟩
    rw [z, hp] at h2
    have z' : HO.lst xs = HO.ext _ := Option.some.inj h2
    cases z'
/-! values that are the same data, of depth below n -/
def flat : V → Bool
  | .non | .bl _ | .int _ | .str _ => true
  | _ => false
def Sm (K : PySem.W.Frag) : Nat → Hp → V → V → Prop
  | 0, _, _, _ => False
  | n + 1, H, x, y => (x = y ∧ flat x = true) ∨ (∃ (a b : Addr) (xs ys : List V), x = .ref a ∧ y = .ref b ∧ ((SqL K H a xs ∧ SqL K H b ys) ∨ (SqT K H a xs ∧ SqT K H b ys)) ∧ xs.length = ys.length ∧ xs.length ≤ 1000 ∧
      ∀ (i : Nat) (u v : V), xs[i]? = some u → ys[i]? = some v → Sm K n H u v)
theorem seqT {K : PySem.W.Frag} {H H' : Hp} {a : Addr} {xs : List V} (e : Same H H') (h : SqT K H a xs) : SqT K H' a xs := by
  rcases h with (h | ⟨o, h⟩) | h
  · exact .inl (.inl (e _ _ h))
  · exact .inl (.inr ⟨o, e _ _ h⟩)
  · exact .inr h
theorem Sm.same {K : PySem.W.Frag} {H H' : Hp} (e : Same H H') : ∀ {n : Nat} {x y : V}, Sm K n H x y → Sm K n H' x y := by
  intro n
  induction n with
  | zero => intro x y h; exact h
  | succ n ih =>
    intro x y h
    unfold Sm at h ⊢
    rcases h with h | ⟨a, b, xs, ys, h1, h2, h3, h4, h5, h6⟩
    · exact .inl h
    · exact .inr ⟨a, b, xs, ys, h1, h2, h3.imp (fun z => ⟨e.seq z.1, e.seq z.2⟩) (fun z => ⟨seqT e z.1, seqT e z.2⟩), h4, h5, fun i u v p q => ih (h6 i u v p q)⟩
theorem tyL {K : PySem.W.Frag} {H : Hp} {a : Addr} {xs : List V} (h : SqL K H a xs) : TyX K H (.ref a) (.type "list") := by
  rcases h with (h | ⟨o, h⟩) | ⟨o, its, n, h1, h2, _⟩
  · exact .base (.lst h)
  · exact .base (.frz h)
  · exact .kList h1 h2
theorem tyT {K : PySem.W.Frag} {H : Hp} {a : Addr} {xs : List V} (h : SqT K H a xs) : TyX K H (.ref a) (.type "tuple") := by
  rcases h with (h | ⟨o, h⟩) | ⟨o, its, n, h1, h2, _⟩
  · exact .base (.tup h)
  · exact .fTuple h
  · exact .kTuple h1 h2
theorem kit2 {K : PySem.W.Frag} {a b c : String} {r1 r2 : Bool} (h1 : kitB a b = some r1) (h2 : kitB a c = some r2) : PySem.W.kitAny K (.type a) [.type b, .type c] = some (r1 || r2) :=
  kitAny_cons (kit_ty h1) (fun e => by subst e; exact kitAny_cons (kit_ty h2) (fun e => by subst e; exact kitAny_nil) (fun e => by subst e; rfl)) (fun e => by subst e; rfl)
/-! list.count of flat items -/
/-- built-in names that the module does not bind -/
structure Blt (mg : Str → Option Value) : Prop where
  isinstance : mg "isinstance" = none
  list : mg "list" = none
  tuple : mg "tuple" = none
  len : mg "len" = none
  all : mg "all" = none
  any : mg "any" = none
  zip : mg "zip" = none
  bool : mg "bool" = none
  str : mg "str" = none
  int : mg "int" = none
  abs : mg "abs" = none
  max : mg "max" = none
  min : mg "min" = none
  range : mg "range" = none
  sorted : mg "sorted" = none
  enumerate : mg "enumerate" = none
  set : mg "set" = none
  sum : mg "sum" = none
  reversed : mg "reversed" = none
  repr : mg "repr" = none
  dict : mg "dict" = none
  ValueError : mg "ValueError" = none
  LookupError : mg "LookupError" = none
  RuntimeError : mg "RuntimeError" = none
  OverflowError : mg "OverflowError" = none
  IndexError : mg "IndexError" = none
  KeyError : mg "KeyError" = none
  NotImplementedError : mg "NotImplementedError" = none
end Ov
set_option Elab.async false
set_option linter.all false
set_option maxRecDepth 100000
set_option maxHeartbeats 4000000
namespace Ov
open PySem L2
/-! lists, numbers -/
theorem erase_perm : ∀ (l : List Int) (j : Nat) (y : Int), l[j]? = some y → (y :: l.eraseIdx j).Perm l
  | [], j, y, h => by simp at h
  | a :: r, 0, y, h => by
    simp at h
    subst h
    exact List.Perm.refl _
  | a :: r, j + 1, y, h => by
    rw [List.getElem?_cons_succ] at h
    rw [List.eraseIdx_cons_succ]
    exact (List.Perm.swap a y _).trans ((erase_perm r j y h).cons a)
theorem sub_len : ∀ (l ks : List Int), l.Nodup → (∀ x ∈ l, x ∈ ks) → l.length ≤ ks.length
  | [], ks, _, _ => Nat.zero_le _
  | a :: r, ks, nd, h => by
    have ha := h a (List.mem_cons_self ..)
    have nd2 := List.nodup_cons.mp nd
    have ih := sub_len r (ks.erase a) nd2.2 fun x hx => (List.mem_erase_of_ne (fun e : x = a => nd2.1 (e ▸ hx))).mpr (h x (List.mem_cons_of_mem _ hx))
    have e := List.length_erase_of_mem ha
    have p : 0 < ks.length := List.length_pos_of_mem ha
    rw [List.length_cons]
    omega
theorem emod_ne {a M : Int} {i j : Nat} (hM : (j : Int) < M) (hij : i < j) : (a + i) % M ≠ (a + j) % M := fun e => by
  have h1 : ((a + j) - (a + i)) % M = 0 := Int.emod_eq_emod_iff_emod_sub_eq_zero.mp e.symm
  have h2 : (a + j) - (a + i) = (j : Int) - i := by omega
  rw [h2, Int.emod_eq_of_lt (by omega) (by omega)] at h1
  omega
theorem step_mod {x M : Int} (hM : 0 < M) : ((x % M + 1) % M) + 1 = (x + 1) % M + 1 := by
  rw [Int.emod_add_emod]
/-! ints as data -/
def dInts (ns : List Int) : PyData := .list (ns.map .int)
theorem lay_ints : ∀ ns : List Int, PyData.canLayAll0 (ns.map PyData.int) = true
  | [] => rfl
  | n :: r => by
    show (PyData.canLay0 (.int n) && PyData.canLayAll0 (r.map PyData.int)) = true
    rw [lay_ints r]
    rfl
theorem depth_ints : ∀ ns : List Int, PyData.depthAll (ns.map PyData.int) ≤ 1
  | [] => Nat.zero_le _
  | n :: r => by
    have ih := depth_ints r
    show max (PyData.depth (.int n)) (PyData.depthAll (r.map PyData.int)) ≤ 1
    have e : PyData.depth (.int n) ≤ 1 := by
      first
        | exact Nat.zero_le _
        | exact Nat.le_refl _
    omega
theorem sh_ints (ns : List Int) : SeqAt.shaped (dInts ns) = true := by
  unfold SeqAt.shaped
  have h1 : PyData.canLay0 (dInts ns) = true := lay_ints ns
  have h2 : PyData.depth (dInts ns) ≤ 64 := by
    have := depth_ints ns
    show PyData.depthAll (ns.map PyData.int) + 1 ≤ 64
    omega
  rw [h1, decide_eq_true h2]
  rfl
theorem eqv_nil (ns : List Int) : PyData.eqv (dInts ns) (.list []) = ns.isEmpty := by
  cases ns with
  | nil => rfl
  | cons n r => rfl
/-! dicts of numbers, all True -/
def kvs (ks : List Int) : List (Key × V) := ks.map fun k => (Sum.inl k, .bl true)
end Ov
set_option Elab.async false
set_option linter.all false
set_option maxRecDepth 100000
set_option maxHeartbeats 4000000
namespace OvX
open PySem PySem.W PySem.Calls PyProof.Rows PySem.HandSPX
/-! a tuple of classes in an except clause -/
theorem forIn_pass {M : Model} {A : Around} {E : Value → Shared → Prop} {β : Type} {b : β} {f : Value → β → Sem (ForInStep β)} {s : Shared} {Q : β → Shared → Prop} :
    ∀ {cs : List Value}, (∀ c ∈ cs, ∀ Q' : ForInStep β → Shared → Prop, Q' (.yield b) s → wpAny M A (f c b) Q' E s) → Q b s → wpAny M A (forIn cs b f) Q E s
  | [], _, q => by
    rw [List.forIn_nil]
    exact wpAny_pure q
  | c :: r, h, q => by
    rw [List.forIn_cons]
    refine wpAny_bind (h c (List.mem_cons_self ..) _ ?_)
    exact forIn_pass (cs := r) (fun c' hc => h c' (List.mem_cons_of_mem _ hc)) q
theorem forIn_seek {M : Model} {A : Around} {E : Value → Shared → Prop} {β : Type} {b d : β} {f : Value → β → Sem (ForInStep β)} {t : Value → Bool} {s : Shared} {Q : β → Shared → Prop} :
    ∀ {cs : List Value}, (∀ c ∈ cs, ∀ Q' : ForInStep β → Shared → Prop, Q' (if t c = true then .done d else .yield b) s → wpAny M A (f c b) Q' E s) → Q (if cs.any t = true then d else b) s → wpAny M A (forIn cs b f) Q E s
  | [], _, q => by
    rw [List.forIn_nil]
    exact wpAny_pure q
  | c :: r, h, q => by
    rw [List.forIn_cons]
    refine wpAny_bind (h c (List.mem_cons_self ..) _ ?_)
    rw [List.any_cons] at q
    cases e : t c with
    | true =>
      rw [e] at q
      exact wpAny_pure q
    | false =>
      rw [e] at q
      exact forIn_seek (cs := r) (fun c' hc => h c' (List.mem_cons_of_mem _ hc)) q
theorem exm_tupN {M : Model} {K : Frag} {cls : Value} {tp e : Addr} {cs : List Value} {h : Heap} (t : Value → Bool) (X : K.In h) (LT : Looks M h (typeOf (.ref e)) cls) (hp : h.get? tp = some { cls := .type "tuple", data := .seq cs.toArray }) (hx : ∀ c ∈ cs, exmOne K cls c = some (t c)) :
    Looks M h (excMatches (.ref e) (.ref tp)) (cs.any t) := by
  intro A Q E s k q
  obtain ⟨hh, g, d, tk, os⟩ := s
  have k : ∀ b o, h.get? b = some o → hh.get? b = some o := k
  have L0 : Looks M h (isInstance (.ref tp) (.type "tuple")) true := ((Looks.ld hp).andThen .now).andThen (Looks.of_pure isSubtype_tuple_tuple)
  have L0 := L0.keeps k
  have LT := LT.keeps k
  have hp' := k _ _ hp
  have ec : ∀ c ∈ cs, Looks M hh (isExcClass c) true ∧ Looks M hh (isSubtype cls c) (t c) := fun c hc => by
    obtain ⟨a, b⟩ := exm_cls (M := M) X (hx c hc)
    exact ⟨a.keeps k, b.keeps k⟩
  unfold excMatches
  refine wpAny_bind (L0.at ?_)
  dsimp only
  rw [if_pos rfl]
  first
    | refine wpAny_bind (wpAny_seqItems hp' rfl ?_)
    | refine wpAny_bind (wpAny_bind (wpAny_seqItems hp' rfl (wpAny_pure ?_)))
  dsimp only [Option.getD_some, Option.getD]
  refine wpAny_bind (wpAny_pure ?_)
  refine wpAny_bind (forIn_pass (fun c hc Q' q' => ?_) ?_)
  · refine wpAny_bind ((ec c hc).1.at ?_)
    rw [if_neg (by decide)]
    exact wpAny_pure q'
  refine wpAny_bind (LT.at ?_)
  refine wpAny_bind (forIn_seek (t := t) (d := (some true, ())) (fun c hc Q' q' => ?_) ?_)
  · refine wpAny_bind ((ec c hc).2.at ?_)
    cases e : t c with
    | true =>
      rw [e] at q'
      exact wpAny_pure q'
    | false =>
      rw [e] at q'
      exact wpAny_pure q'
  · cases e : cs.any t with
    | true =>
      rw [e] at q
      exact wpAny_pure q
    | false =>
      rw [e] at q
      exact wpAny_pure q
end OvX
namespace Ov
open PySem L2
/-- an exception that was caught, of the class at C, its dict d -/
def exg (a C : Addr) (d : Option Addr) : HO := .ext fun h => ∃ (oe : Obj) (vs : Array Value), h.get? a = some oe ∧ oe.cls = .ref C ∧ oe.dict = d ∧ oe.data = .fields vs
theorem exg_ok {P : Program} {w : World} {H : Hp} {h : Heap} {a C : Addr} {d : Option Addr} {oe : Obj} {vs : Array Value} (e : h.get? a = some oe) (c : oe.cls = .ref C) (hd : oe.dict = d) (hf : oe.data = .fields vs) : ObjOk P w H h a (exg a C d) :=
  ⟨⟨oe, vs, e, c, hd, hf⟩, ⟨oe, e⟩, fun h1 h2 z k => by
    obtain ⟨o, v, q, r⟩ := z
    exact ⟨o, v, k _ q, r⟩⟩
theorem exg_at {P : Program} {w : World} {H : Hp} {h : Heap} {a C : Addr} {d : Option Addr} (hok : HOk P w H h) (e : H a = some (exg a C d)) : ∃ (oe : Obj) (vs : Array Value), h.get? a = some oe ∧ oe.cls = .ref C ∧ oe.dict = d ∧ oe.data = .fields vs := by
  have x : ObjOk P w H h a (.ext fun h => ∃ (oe : Obj) (vs : Array Value), h.get? a = some oe ∧ oe.cls = .ref C ∧ oe.dict = d ∧ oe.data = .fields vs) := hok a _ e
  exact x.1
section
variable {X : Cx} {pins : List (Addr × Obj)} {σ : L2.St} {H : Hp} {s : Shared}
/-- an object that came up since the def began may be tracked -/
theorem track {a C : Addr} {d : Option Addr} {oe : Obj} {vs : Array Value} (I : Inv X pins σ H s) (na : H a = none) (he : s.heap.get? a = some oe) (c : oe.cls = .ref C) (hd : oe.dict = d) (hf : oe.data = .fields vs) (new : X.s_0.heap.get? a = none) (nL : a ≠ X.env.locals) (np : ∀ p ∈ X.pn ++ pins, p.1 ≠ a) :
    Inv X pins σ (upd H a (exg a C d)) s := by
  have ne : ∀ b o, X.s_0.heap.get? b = some o → b ≠ a := fun b o e z => by
    rw [z, new] at e
    cases e
  have nh : ∀ b o, H b = some o → b ≠ a := fun b o e z => by
    rw [z, na] at e
    cases e
  refine ⟨I.ok, I.os, I.bare, ⟨I.base.keep, I.base.slot, fun b o e n hx => ?_, I.base.there, fun b xs e => ?_, fun b o u e => ?_, fun b ps e => ?_⟩, I.loc, I.cell, ?_, fun x q e => ?_, fun p hp => ?_, fun b o e => ?_, I.len⟩
  · rw [upd_ne (ne b o e)]
    exact I.base.free b o e n hx
  · have q := I.base.tups b xs e
    rw [upd_ne (nh b _ q)]
    exact q
  · have q := I.base.frzs b o u e
    rw [upd_ne (nh b _ q)]
    exact q
  · obtain ⟨m, q⟩ := I.base.tbls b ps e
    refine ⟨m, ?_⟩
    rw [upd_ne (nh b _ q)]
    exact q
  · rw [upd_ne (Ne.symm nL)]
    exact I.free
  · have nq : q ≠ a := fun z => by
      obtain ⟨v, o, ho, hdt⟩ := I.cell x q e
      rw [z, he] at ho
      cases ho
      rw [hf] at hdt
      cases hdt
    rw [upd_ne nq]
    exact I.freeC x q e
  · obtain ⟨e1, e2, e3, e4, e5⟩ := I.pin p hp
    refine ⟨e1, ?_, e3, e4, e5⟩
    rw [upd_ne (np p hp)]
    exact e2
  · by_cases hb : b = a
    · subst hb
      rw [upd_same] at e
      cases e
      exact exg_ok he c hd hf
    · rw [upd_ne hb] at e
      refine (I.hok b o e).stay (fun c v _ z => z) (fun c hc => ?_) (fun c xs hc => ?_)
      · rw [upd_ne (nh c _ hc)]
        exact hc
      · rw [upd_ne (nh c _ hc)]
        exact hc
end
/-- names of classes, one after the other -/
inductive Nms (X : Cx) : List Expr → List Value → Prop where
  | nil : Nms X [] []
  | cons {x : Str} {p : Pos} {c : Value} {es : List Expr} {cs : List Value} (hg : Gl X x) (hd : (x == ("__debug__" : Str)) = false) (hm : X.mg x = some c) (he : starEach (.Name x p :: es) X.env = (false, eval (.Name x p) X.env) :: starEach es X.env) (r : Nms X es cs) : Nms X (.Name x p :: es) (c :: cs)
theorem Nms.run {X : Cx} {pins : List (Addr × Obj)} {σ : L2.St} {H : Hp} {s : Shared} {E : Value → Shared → Prop} {pos : Pos} (I : Inv X pins σ H s) : ∀ {es : List Expr} {cs : List Value} {Q : List Value → Shared → Prop}, Nms X es cs → Q cs s → wpAny (model X.prog X.w) X.A (spliced (backTo pos (starEach es X.env))) Q E s
  | _, _, _, .nil, q => wpAny_items_nil q
  | _, _, _, .cons hg hd hm he r, q => wpAny_items_cons (ld_glob I hg hm (Nms.run I r q) hd) he
theorem Nms.suite {X : Cx} {a : Addr} {pn : List (Addr × Obj)} : ∀ {es : List Expr} {cs : List Value}, Nms X es cs → Nms (X.suite a pn) es cs
  | _, _, .nil => .nil
  | _, _, .cons hg hd hm he r => .cons hg hd hm he r.suite
theorem flying_keeps {B h h' : Heap} {l : List Env} {a : Addr} {Z : Obj → Prop} (x : HandSPX.FlyingZ B l a Z h) (k : ∀ b o, h.get? b = some o → h'.get? b = some o) : HandSPX.FlyingZ B l a Z h' := by
  obtain ⟨h1, h2, h3, oe, vs, T, oT, ts, he, hz, hd, hv, hB, hT, hg, hdT, hf⟩ := x
  exact ⟨fun b o e => k b o (h1 b o e), h2, Heap.FunFrames.of_keeps (fun b o e _ => ⟨o, k b o e, rfl⟩) h3, oe, vs, T, oT, ts, k _ _ he, hz, hd, hv, hB, hT, k _ _ hg, hdT, hf⟩
/-- what such a try wishes of an exception of the body: it is caught, held by slot i in the suite, and kept behind it -/
def wKeep (t : Value → Value → Bool) (K : PySem.W.Frag) (cs : List Value) (i : Nat) (ts : Addr → Value → Option Addr → TS) (D : Ends) : WX := fun cls d σ H =>
  ∃ C : Addr, cls = .ref C ∧ (∀ c ∈ cs, PySem.W.exmOne K cls c = some (t cls c)) ∧ cs.any (t cls) = true ∧
    ∀ a, H a = none → ts a cls d { nx := fun σ' H' => D.nx (σ'.set i none) (upd H' a (exg a C d)), rt := fun _ _ => False, bk := fun _ _ => False, ct := fun _ _ => False } (σ.set i (some (.ref a))) H
section
variable {X : Cx} {n : Str} {cs : List Value} {i : Nat} {body suite : List Stmt} {b₀ : Stmt} {elts : List Expr} {kk : Nat} {tpos pos pos' : Pos} {tb : WX → TS} {ts : Addr → Value → Option Addr → TS} {t : Value → Value → Bool}
theorem ps_keep (hs : X.stack = X.env :: X.outer) (hf : X.env.frame = some X.env.locals) (hex : X.ex = []) (hN : X.N.Nodup) (hi : X.N[i]? = some n) (hln : X.env.kindOf n = some .local) (hc : Nms X elts cs) (hz : cs.length ≤ sizeLine)
    (hb : ∀ (W : WX) (pn : List (Addr × Obj)) (xe : Value → Shared → Prop), Takes (X.tr pn xe) W → PassesOwn (model X.prog X.w) X.A X.env xe → PSs (X.tr pn xe) body (tb W))
    (hsu : ∀ (a : Addr) (oe : Obj) (cls : Value) (d : Option Addr) (pn : List (Addr × Obj)), Zc cls d oe → (∃ vs, oe.data = .fields vs) → PSs (X.suite a ((a, oe) :: pn)) (b₀ :: suite) (ts a cls d)) :
    PS X (.Try body [.ExceptHandler (some (.Tuple elts kk tpos)) (some n) (b₀ :: suite) pos'] [] [] pos) (fun D σ H => tb (wKeep t X.K cs i ts D) D σ H) := by
  refine ⟨fun pins s σ H D I h => ?_⟩
  have ok := I.ok
  have hfr : X.A.frames = some (X.env :: X.outer) := by rw [ok.frames, hs]
  have hloc : Loc X.env.scope n := .inl hln
  refine wpAny_Try_except ?_
  refine wpAny_mono ((hb (wKeep t X.K cs i ts D) (X.pn ++ pins) (fun e s₁ => wpAny (model X.prog X.w) X.A (noteFrame e X.env) (fun _ s₂ => wpAny (model X.prog X.w) X.A (setFlight e none) (fun _ s₃ =>
    wpAny (model X.prog X.w) X.A (handleBy e X.env [.ExceptHandler (some (.Tuple elts kk tpos)) (some n) (b₀ :: suite) pos']) (SP X pins D) X.xe s₃) X.xe s₂) X.xe s₁) (fun u s' xx => ?_) PassesOwn.looking).run [] s σ H D (I.toTry _) h) (fun f s1 hsp => ?_) (fun e s1 he => he)
  · obtain ⟨a, B, sI, pins', σ', H', cls, d, rfl, J', nb, up, sky, na, os, ag, C, rfl, hx, hany, hyes⟩ := xx
    have J : Inv X pins σ' H' sI := J'.ofTry ok
    have sky' : Sky B (X.env :: X.outer) a (Zc (.ref C) d) X.env.locals s'.heap := by rw [← hs]; exact sky
    show wpAny (model X.prog X.w) X.A (noteFrame (.ref a) X.env) _ _ _
    refine Sky.land Zc.steady hfr hf sky' fun h3 fl3 up3 => ?_
    have J3 : Inv X pins σ' H' { s' with heap := h3 } := J.landed nb fl3.1 (up.trans up3) os ag
    obtain ⟨oe3, vs3, he3, hz3, hd3⟩ := fl3.there
    have nfr : a ∉ frs (X.env :: X.outer) := fun hm => by
      obtain ⟨_, o', e', hnf⟩ := fl3.2.2.1.mem hm
      rw [he3] at e'
      cases e'
      exact hnf _ hd3
    have nL : a ≠ X.env.locals := fun z => nfr (List.mem_filterMap.mpr ⟨X.env, List.mem_cons_self, by rw [hf, z]⟩)
    have nF : a ∉ X.fs := fun hm => by
      obtain ⟨e, he, q⟩ := List.mem_filterMap.mp hm
      exact nfr (List.mem_filterMap.mpr ⟨e, List.mem_cons_of_mem _ he, q⟩)
    have Ba : B.get? a = none := fl3.2.1
    have nS : a ∉ frs X.stack := by rw [hs]; exact nfr
    have new : X.s_0.heap.get? a = none := by
      cases e : X.s_0.heap.get? a with
      | none => rfl
      | some o =>
        obtain ⟨o', q⟩ := J.base.there a o e (by rw [hex]; exact fun z => nomatch z)
        have z := nb a o' q nS
        rw [Ba] at z
        cases z
    have npin : ∀ p ∈ X.pn ++ pins, p.1 ≠ a := fun p hp z => by
      obtain ⟨e1, _⟩ := J.pin p hp
      rw [z] at e1
      have y := nb a _ e1 nS
      rw [Ba] at y
      cases y
    have S3 := J3.suite he3 hd3 na nL nF
    refine wpAny_handleBy_cons (codeAny_handlers_test ?_) (by intro q; cases q)
    refine wpAny_Tuple ?_
    refine Nms.run (X := X.suite a ((a, oe3) :: (X.pn ++ pins))) S3 hc.suite ⟨hz, ?_⟩
    have kp : ∀ b o, h3.get? b = some o → (h3.push { cls := .type "tuple", data := .seq cs.toArray }).get? b = some o := fun _ _ z => Heap.get?_push_of_some _ z
    have LT : PySem.W.Looks (model X.prog X.w) h3 (typeOf (.ref a)) (.ref C) := fun A Q E s k q => wpAny_typeOf_ref (k _ _ he3) (by rw [hz3.1]; exact q)
    have LM := OvX.exm_tupN (M := model X.prog X.w) (tp := h3.objs.size) (t (.ref C)) (J3.kIn.keeps kp) (LT.keeps kp) (Heap.get?_push_size h3 rfl) hx
    rw [hany] at LM
    refine LM.here ?_
    refine codeAny_handlers_suite_as ?_
    refine HandSPX.lands_againZ (flying_keeps fl3 kp) fun h4 fl4 up4 => ?_
    have up34 : h3.UpToSlots h4 := (Heap.UpToSlots.of_keeps kp).trans up4
    have J4 : Inv X pins σ' H' { s' with heap := h4 } := J.landed nb fl4.1 ((up.trans up3).trans up34) os ag
    obtain ⟨oe4, vs4, he4, hz4, hd4⟩ := fl4.there
    have S4 := J4.suite he4 hd4 na nL nF
    refine store_ok (X := X.suite a ((a, oe4) :: (X.pn ++ pins))) (v := .ref a) S4 hN hi hloc rfl (fun s5 S5 => ?_) (.inr hln)
    refine wpAny_mono ((hsu a oe4 (.ref C) d (X.pn ++ pins) hz4 ⟨_, hd4⟩).run [] s5 _ H' _ S5 (hyes a na)) (fun f s6 hsp => ?_) (fun _ _ z => False.elim z)
    cases f with
    | next =>
      obtain ⟨σ6, H6, S6, q6⟩ := hsp
      refine gone_ok (X := X.suite a ((a, oe4) :: (X.pn ++ pins))) S6 hN hi hln fun s7 S7 => ?_
      obtain ⟨g1, g2, _⟩ := S7.pin (a, oe4) (List.mem_append_left _ List.mem_cons_self)
      have J7 : Inv X pins (σ6.set i none) H6 s7 := S7.unsuite ok
      exact ⟨_, _, track J7 g2 g1 hz4.1 hz4.2 hd4 new nL npin, q6⟩
    | brk =>
      obtain ⟨σ6, H6, S6, q6⟩ := hsp
      exact False.elim q6
    | cont =>
      obtain ⟨σ6, H6, S6, q6⟩ := hsp
      exact False.elim q6
    | ret u =>
      obtain ⟨v6, σ6, H6, S6, r6, q6⟩ := hsp
      exact False.elim q6
  · cases f with
    | next =>
      obtain ⟨σ', H', J', q⟩ := hsp
      exact wpAny_execs_nil ⟨σ', H', J'.ofTry ok, q⟩
    | brk =>
      obtain ⟨σ', H', J', q⟩ := hsp
      exact ⟨σ', H', J'.ofTry ok, q⟩
    | cont =>
      obtain ⟨σ', H', J', q⟩ := hsp
      exact ⟨σ', H', J'.ofTry ok, q⟩
    | ret u =>
      obtain ⟨v, σ', H', J', r, q⟩ := hsp
      exact ⟨v, σ', H', J'.ofTry ok, r, q⟩
end
end Ov
set_option Elab.async false
set_option linter.all false
set_option maxRecDepth 100000
set_option maxHeartbeats 4000000
namespace Ov
open PySem L2
abbrev tlValueError : List Value := [.type "ValueError", .type "Exception", .type "BaseException", .type "object"]
abbrev tlLookupError : List Value := [.type "LookupError", .type "Exception", .type "BaseException", .type "object"]
abbrev tlRuntimeError : List Value := [.type "RuntimeError", .type "Exception", .type "BaseException", .type "object"]
abbrev tlOverflowError : List Value := [.type "OverflowError", .type "ArithmeticError", .type "Exception", .type "BaseException", .type "object"]
/-- self.f = v -/
def spIni (K : PySem.W.Frag) (C : Addr) (bmB : List Value) (newId : String) (f : Str) : Sp := fun vs H Q _ => ∃ (a : Addr) (v : V), vs = [.ref a, v] ∧ OvX.ExK K C bmB newId ∧ PySem.W.findIn K (.ref C) f = some none ∧ H a = some (exo a C none) ∧
  ∀ dx, H dx = none → dx ≠ a → Q .non (upd (upd H dx (exd dx [(f, v)])) a (exo a C (some dx)))
def tl : Nat → List Value
  | 0 => tlValueError
  | 1 => tlLookupError
  | 2 => tlRuntimeError
  | _ => tlOverflowError
def nw : Nat → String
  | 0 => "ValueError.__new__"
  | 1 => "LookupError.__new__"
  | 2 => "RuntimeError.__new__"
  | _ => "OverflowError.__new__"
structure Cl (K : PySem.W.Frag) (C : Addr) (k : Nat) : Prop where
  ex : OvX.ExK K C (tl k) (nw k)
  mro : (PySem.W.clsIn K C).map (·.mro) = some (.ref C :: tl k)
  ty : PySem.W.typeIn K (.ref C) = some (.type "type")
theorem tl_ref (k : Nat) (D : Addr) : (tl k).contains (.ref D) = false := by
  match k with
  | 0 => rfl
  | 1 => rfl
  | 2 => rfl
  | _ + 3 => rfl
theorem Cl.sub {K : PySem.W.Frag} {C : Addr} {k : Nat} (x : Cl K C k) (v : Value) : PySem.W.subIn K (.ref C) v = some ((Value.ref C :: tl k).contains v) := by
  obtain ⟨cd, h1, h2⟩ := Option.map_eq_some_iff.mp x.mro
  show PySem.W.mroIn K C v = _
  unfold PySem.W.mroIn
  rw [h1, Option.bind_some, h2]
  rfl
theorem Cl.own {K : PySem.W.Frag} {C D : Addr} {k j : Nat} (x : Cl K C k) (y : Cl K D j) : PySem.W.kitOne K (.ref C) (.ref D) = some (decide (C = D)) := by
  unfold PySem.W.kitOne
  by_cases h : C = D
  · subst h
    rw [if_pos (beq_self_eq_true _), decide_eq_true rfl]
  · have e : (Value.ref C == Value.ref D) = false := beq_eq_false_iff_ne.mpr fun z => h (Value.ref.inj z)
    rw [e, if_neg Bool.false_ne_true, decide_eq_false h]
    obtain ⟨cd, h1, h2⟩ := Option.map_eq_some_iff.mp y.mro
    show (if ((PySem.W.clsIn K D).isSome && PySem.W.typeIn K (.ref D) == some (.type "type")) = true then PySem.W.subIn K (.ref C) (.ref D) else none) = some false
    rw [h1, y.ty, if_pos (by rfl), x.sub, List.contains_cons, tl_ref]
    rw [show (Value.ref D == Value.ref C) = false from beq_eq_false_iff_ne.mpr fun z => h (Value.ref.inj z).symm]
    rfl
theorem Cl.bas {K : PySem.W.Frag} {C : Addr} {k : Nat} (x : Cl K C k) (T : String) (b : Bool) (hm : PySem.W.kitMeta T = true) (hb : (tl k).contains (.type T) = b) : PySem.W.kitOne K (.ref C) (.type T) = some b := by
  unfold PySem.W.kitOne
  rw [show (Value.ref C == Value.type T) = false from rfl, if_neg Bool.false_ne_true]
  show (if PySem.W.kitMeta T = true then PySem.W.subIn K (.ref C) (.type T) else none) = some b
  rw [if_pos hm, x.sub, List.contains_cons, hb, show (Value.type T == Value.ref C) = false from rfl, Bool.false_or]
theorem kbn_of {K : PySem.W.Frag} {x qual : Str} {st : Stmt} {f : Addr} {fd : FuncData} {ps : List Str} (F : Fun K x qual st f fd) (n : Nat) (ks : List Str)
    (h : ∀ (kV doc pm : Value) (an : Option Addr) (cdv ct : Value) (us ws : List Value), us.length = n → ws.length = ks.length → bindArgs (PySem.W.fnOf x qual (defArgs st) (defBody st) (defScope st) .none kV doc pm an cdv ct) ⟨us, ks.zip ws⟩ = pure (ps.zip (us ++ ws))) :
    KBn K fd ps n ks (fun us ws => us ++ ws) (fun vs zs => vs ++ zs) := by
  obtain ⟨oc, od, kV, doc, pm, an, cdv, ct, osl, rfl, lk, hcd⟩ := F.ex
  exact ⟨fun s us ws _ l1 l2 => .of_eq (h kV doc pm an cdv ct us ws l1 l2), fun r1 r2 => r1.append r2⟩
theorem exb (k : Nat) : ∃ B initId, ExcBaseFacts B (nw k) initId (tl k) := by
  match k with
  | 0 => exact ⟨_, _, PySem.F.excBase_ValueError⟩
  | 1 => exact ⟨_, _, PySem.F.excBase_LookupError⟩
  | 2 => exact ⟨_, _, PySem.F.excBase_RuntimeError⟩
  | _ + 3 => exact ⟨_, _, PySem.F.excBase_OverflowError⟩
def E0 : XK := fun _ _ _ => False
/-- the class x at C and its __init__(self, f) -/
structure MkE (P : Program) (w : World) (K : PySem.W.Frag) (mg : Str → Option Value) (base : Heap) (C : Addr) (k : Nat) (x f : Str) (sp : Sp) : Prop where
  cl : Cl K C k
  mgC : mg x = some (.ref C)
  no : PySem.W.findIn K (.ref C) f = some none
  ini : ∃ (fI : Addr) (fd : FuncData), PySem.W.findIn K (.ref C) "__init__" = some (some (.ref fI)) ∧ PySem.W.typeIn K (.ref fI) = some (.type "function") ∧ FnOk P w K mg base CX0 1 fI fd ["self", f] sp ∧
    KBn K fd ["self", f] 2 [] (fun us ws => us ++ ws) (fun vs zs => vs ++ zs) ∧ KBn K fd ["self", f] 1 [f] (fun us ws => us ++ ws) (fun vs zs => vs ++ zs)
/-! the three ways -/
theorem laid {H : Hp} {a dx C : Addr} {f : Str} {v : V} (na : H a = none) (nd : upd H a (exo a C none) dx = none) (ne : dx ≠ a) :
    Same H (upd (upd (upd H a (exo a C none)) dx (exd dx [(f, v)])) a (exo a C (some dx))) := fun b o h => by
  have hb : b ≠ a := ne_of_none h na
  have hd : b ≠ dx := ne_of_none h (by rw [upd_ne ne] at nd; exact nd)
  rw [upd_ne hb, upd_ne hd, upd_ne hb]
  exact h
theorem tl_tail (k : Nat) : PySem.W.excTail (tl k) (tl k) = true := by
  match k with
  | 0 => decide +kernel
  | 1 => decide +kernel
  | 2 => decide +kernel
  | _ + 3 => exact (by decide +kernel : PySem.W.excTail tlOverflowError tlOverflowError = true)
section
variable {K : PySem.W.Frag} {C : Addr} {nm q : Str} {N : Addr} {bs : List Value} {sn : List Str} {sub : List Value} {ab : Bool} {col : Option Bool} {dd : Option Addr} {k0 k1 k2 k3 k5 : Option Value}
theorem cl_mk (k : Nat) (xL : K.lookup C = some (excClassObj nm q C N bs (tl k) true sn sub ab col dd k0 k1 k2 k3 k5 (nw k)))
    (sa : PySem.W.findIn K (.ref C) "__setattr__" = some (some (.builtin "object.__setattr__"))) (ga : PySem.W.findIn K (.ref C) "__getattribute__" = some (some (.builtin "BaseException.__getattribute__"))) (gg : PySem.W.findIn K (.ref C) "__getattr__" = some none)
    (kC : PySem.W.keepIn K (.ref C) = true) (ca : PySem.W.findIn K (.ref C) "__class__" = some (some (.builtin "object.__class__"))) (ty : PySem.W.typeIn K (.ref C) = some (.type "type"))
    (sp : PySem.W.specialIn K (.builtin "object.__class__") "__get__" = some (some (.builtin "getset_descriptor.__get__"))) (tk : PySem.W.takesIn K (.builtin "object.__class__") = some true) : Cl K C k := by
  have hc : (PySem.W.clsIn K C).map (·.mro) = some (.ref C :: tl k) := by
    unfold PySem.W.clsIn
    rw [xL]
    rfl
  have hs : ∀ v, PySem.W.mroIn K C v = some ((Value.ref C :: tl k).contains v) := fun v => by
    obtain ⟨cd, h1, h2⟩ := Option.map_eq_some_iff.mp hc
    unfold PySem.W.mroIn
    rw [h1, Option.bind_some, h2]
    rfl
  have tB : (tl k).contains (.type "BaseException") = true ∧ (tl k).contains (.type "object") = true := by
    match k with
    | 0 => decide +kernel
    | 1 => decide +kernel
    | 2 => decide +kernel
    | _ + 3 => exact (by decide +kernel : tlOverflowError.contains (.type "BaseException") = true ∧ tlOverflowError.contains (.type "object") = true)
  refine ⟨⟨?_, ?_, sa, ga, gg, ?_, ?_, kC, ca, sp, tk, ?_⟩, hc, ty⟩
  · unfold PySem.W.excOver PySem.W.clsIn
    rw [xL]
    show (C == C && PySem.W.excTail (tl k) (tl k)) = true
    rw [tl_tail, beq_self_eq_true]
    rfl
  · unfold PySem.W.excInitIn
    rw [xL]
    show (C == C && nw k == nw k && !false && PySem.W.excTail (tl k) (tl k)) = true
    rw [tl_tail, beq_self_eq_true, beq_self_eq_true]
    rfl
  · show PySem.W.mroIn K C _ = _
    rw [hs, List.contains_cons, tB.1, Bool.or_true]
  · unfold PySem.W.hasDictIn PySem.W.clsIn
    rw [xL]
    rfl
  · rw [hs, List.contains_cons, tB.2, Bool.or_true]
end
/-! raise C(e) -/
theorem Cl.raises {X : Cx} {C : Addr} {k : Nat} (x : Cl X.K C k) : Raises X (.ref C) := raises_own x.ex.exC x.ty
/-- the exception's own dict alone is told behind the making -/
def tRz (C : Addr) (sp : Sp) (t : TA) : L2.St → Hp → XK → Prop := fun σ H Q => t σ H fun vs H1 => ∃ v, vs = [v] ∧ ∀ a, H1 a = none → sp [.ref a, v] (upd H1 a (exo a C none))
  (fun r H2 => r = .non ∧ ∃ (d : Addr) (fs : List (Str × V)), H2 a = some (exo a C (some d)) ∧ H2 d = some (exd d fs) ∧ H1 d = none ∧ Q (.ref C) (some d) (upd (del H2 a) d (.xd fs))) E0
theorem pmk_ex {X : Cx} {k : Nat} {C : Addr} {sp : Sp} {x f : Str} {p pos : Pos} {e : Expr} {t : TA} (M : MkE X.prog X.w X.K X.mg X.base C k x f sp) (hr : Room 2 X.A) (hg : Gl X x) (ha : PA X [e] t)
    (hdb : (x == ("__debug__" : Str)) = false := by decide) (he : starEach [e] X.env = (false, eval e X.env) :: starEach [] X.env := by rfl) (hpl : (backTo pos (starEach [] X.env)).any (·.1) = false := by rfl) :
    PMk X (.Call (.Name x p) [e] [] pos) (tRz C sp t) := by
  intro pins s σ H Q I h
  obtain ⟨B, initId, FB⟩ := exb k
  obtain ⟨fI, fd, iC, tI, F1, b0, bK⟩ := M.ini
  refine wpAny_Call_Name_kw (ld_glob I hg M.mgC ?_ hdb)
  refine PySem.W.callWith_K (h₀ := X.base) I.ok.mod.kin M.cl.ex.kC (thn (ha.run pos pins s σ H _ I h) fun us s1 ⟨vs, H1, I1, r, v, ev, q⟩ => ⟨I1.kIn, ?_⟩) he hpl
  subst ev
  obtain ⟨nm, N, qn, bs, bm, hdct, sn, sub, ab, col, dd, k0, k1, k2, k3, k5, hC, hT⟩ := PySem.W.excInit_of I1.kIn M.cl.ex.ini
  obtain ⟨hp, gs, dr, tk, os⟩ := s1
  have hsz : hp.objs.size ≤ hp.objs.size + 1 := Nat.le_succ _
  have hq := q (hp.objs.size + 1) (I1.hok.fresh hsz)
  have kk : ∀ b u, hp.get? b = some u → ((hp.push (PySem.W.kdv_tup us)).push (PySem.HandSPX.excO C hp.objs.size)).get? b = some u := fun b u q => Heap.get?_push_of_some _ (Heap.get?_push_of_some _ q)
  have hg : ((hp.push (PySem.W.kdv_tup us)).push (PySem.HandSPX.excO C hp.objs.size)).get? (hp.objs.size + 1) = some (PySem.HandSPX.excO C hp.objs.size) := by heap_get
  have I2 : Inv X pins σ (upd H1 (hp.objs.size + 1) (exo (hp.objs.size + 1) C none)) ⟨(hp.push (PySem.W.kdv_tup us)).push (PySem.HandSPX.excO C hp.objs.size), gs, dr, tk, os⟩ :=
    I1.laid (t' := tk) (a := hp.objs.size + 1) (o := exo (hp.objs.size + 1) C none) (h' := (hp.push (PySem.W.kdv_tup us)).push (PySem.HandSPX.excO C hp.objs.size)) kk hsz (exo_ok hg)
  have r1 : Vals [V.ref (hp.objs.size + 1), v] (Value.ref (hp.objs.size + 1) :: us) := .cons rfl r
  have e1 : (Value.ref (hp.objs.size + 1) :: us).length = 2 := r1.length.symm
  have hus : us.length ≤ sizeLine := by
    rw [← r.length, sizeLine_eq]
    exact (by decide : 1 ≤ 16777216)
  have r2 : Vals [V.ref (hp.objs.size + 1), v] ((Value.ref (hp.objs.size + 1) :: us) ++ []) := by rw [List.append_nil]; exact r1
  refine wpAny_call (OvX.callOwn (kw := []) FB hT hC (PySem.W.looks_findIn I1.kIn iC) (fun self => PySem.W.bind_fn I1.kIn self tI) hus
    (codeAny_mono (F1.run _ X.stack _ _ ⟨Value.ref (hp.objs.size + 1) :: us, []⟩ ((Value.ref (hp.objs.size + 1) :: us) ++ []) _ _ E0 (hr.make C us []) (I2.env0.make C us []) (b0.to _ _ [] I2.kIn e1 rfl) r2 hq) fun r s' hq' => ?_))
  cases r with
  | error er => exact pass0 (X := X) pins σ _ _ er s' I2 hq'
  | ok fl =>
    cases fl with
    | ret u =>
      obtain ⟨v', H2, os2, bare2, un2, hok2, rv, ev, d, fs, ea, ed, hd1, q2⟩ := hq'
      subst ev
      obtain ⟨h2, g2, d2, t2, os'⟩ := s'
      exact ⟨rv, mk_end M.cl.raises I1 hsz kk un2 hok2 os2 bare2 ea ed hd1 q2⟩
    | next => exact False.elim hq'
    | brk => exact False.elim hq'
    | cont => exact False.elim hq'
/-- with a plain __init__ -/
theorem rz_plain {K : PySem.W.Frag} {C : Addr} {k : Nat} {f : Str} {v : V} {H1 : Hp} {Q : XK} (x : Cl K C k) (no : PySem.W.findIn K (.ref C) f = some none) (q : ∀ d H', Same H1 H' → H1 d = none → H' d = some (.xd [(f, v)]) → Q (.ref C) (some d) H') (a : Addr) (na : H1 a = none) :
    spIni K C (tl k) (nw k) f [.ref a, v] (upd H1 a (exo a C none)) (fun r H2 => r = .non ∧ ∃ (d : Addr) (fs : List (Str × V)), H2 a = some (exo a C (some d)) ∧ H2 d = some (exd d fs) ∧ H1 d = none ∧ Q (.ref C) (some d) (upd (del H2 a) d (.xd fs))) E0 := by
  refine ⟨a, v, rfl, x.ex, no, upd_same, fun dx nd ne => ⟨rfl, dx, [(f, v)], upd_same, ?_, ?_, ?_⟩⟩
  · rw [upd_ne ne]
    exact upd_same
  · rw [upd_ne ne] at nd
    exact nd
  · rw [upd_ne ne] at nd
    refine q dx _ (fun b o h => ?_) nd upd_same
    have hb : b ≠ a := ne_of_none h na
    have hd : b ≠ dx := ne_of_none h nd
    rw [upd_ne hd, del_ne hb, upd_ne hb, upd_ne hd, upd_ne hb]
    exact h
/-! a caught exception -/
def Cau (K : PySem.W.Frag) (H : Hp) (a C : Addr) (fs : List (Str × V)) : Prop := ∃ (k : Nat) (d : Addr), Cl K C k ∧ H a = some (exg a C (some d)) ∧ H d = some (.xd fs)
theorem Cau.same {K : PySem.W.Frag} {H H' : Hp} {a C : Addr} {fs : List (Str × V)} (h : Cau K H a C fs) (s : Same H H') : Cau K H' a C fs := by
  obtain ⟨k, d, x, h1, h2⟩ := h
  exact ⟨k, d, x, s _ _ h1, s _ _ h2⟩
section
variable {X : Cx} {e : Expr} {te : TE} {pos : Pos}
theorem cau_inst {pins : List (Addr × Obj)} {σ : L2.St} {H : Hp} {s : Shared} {a C : Addr} {fs : List (Str × V)} (I : Inv X pins σ H s) (h : Cau X.K H a C fs) :
    ∃ (k : Nat) (oe od : Obj) (mA : Str → Option Value), Cl X.K C k ∧ PySem.W.InstAt s.heap a oe C (some od) ∧ (∀ f, RelO (fs.lookup f) (mA f)) ∧ ∀ f, PySem.W.lookIn f od = some (mA f) := by
  obtain ⟨k, d, x, h1, h2⟩ := h
  obtain ⟨oe, vs, he, hc, hd, hf⟩ := exg_at I.hok h1
  have hx : ObjOk X.prog X.w H s.heap d (.xd fs) := I.hok d _ h2
  obtain ⟨mA, hns, rel⟩ := hx
  obtain ⟨od, ho, hl⟩ := lookIn_ns hns
  exact ⟨k, oe, od, mA, x, ⟨he, hc, by unfold PySem.W.notCls; rw [hf] <;> rfl, by rw [hd]; exact ho⟩, rel, hl⟩
def tCaf (K : PySem.W.Frag) (f : Str) (te : TE) : TE := fun σ H Q => te σ H fun x H1 => ∃ (a C : Addr) (fs : List (Str × V)) (v : V), x = .ref a ∧ Cau K H1 a C fs ∧ PySem.W.findIn K (.ref C) f = some none ∧ fs.lookup f = some v ∧ Q v H1
theorem pe_caf {f : Str} (he : PE X e te) (hb : attributeBase e f X.env (eval e X.env) = eval e X.env := by rfl) : PE X (.Attribute e f pos) (tCaf X.K f te) := by
  refine ⟨fun pins s σ H Q I h => ?_⟩
  refine attr_of hb (thn (he.run pins s σ H _ I h) fun u s1 hh => ?_)
  obtain ⟨y, H1, I1, rx, a, C, fs, v, ex, hE, hno, l, q⟩ := hh
  subst ex
  obtain rfl : u = Value.ref a := rx
  obtain ⟨k, oe, od, mA, x, J, rel, hl⟩ := cau_inst I1 hE
  obtain ⟨u, hu, ru⟩ := RelO.some_of (v := v) (o := mA f) (by rw [← l]; exact rel f)
  exact HandSPX.exc_get I1.kIn J x.ex.ga x.ex.gg x.ex.exC (PySem.W.findObj_own x.ex.hd hno rfl (by rw [hl, hu])) (handed_of ru) ⟨v, H1, I1.tok _, ru, q⟩
theorem cau_kit {pins : List (Addr × Obj)} {σ : L2.St} {H : Hp} {s : Shared} {a C : Addr} {fs : List (Str × V)} (I : Inv X pins σ H s) (h : Cau X.K H a C fs) : ∃ P : Heap → Prop, PySem.W.KitX X.K (.ref a) (.ref C) P ∧ P s.heap := by
  obtain ⟨k, oe, od, mA, x, J, rel, hl⟩ := cau_inst I h
  obtain ⟨cd, hcd, _⟩ := PySem.W.any_some x.ex.hd
  exact ⟨_, PySem.W.kitx_exc (by rw [hcd]; rfl) x.ex.ga x.ex.gg x.ex.exC x.ex.ca x.ex.sp x.ex.tk x.ex.mr, J⟩
end
/-- one own class among the classes of a clause -/
theorem Cl.exm {K : PySem.W.Frag} {C D : Addr} {k j : Nat} (x : Cl K C k) (y : Cl K D j) : PySem.W.exmOne K (.ref C) (.ref D) = some (decide (C = D)) := by
  obtain ⟨cd, h1, h2⟩ := Option.map_eq_some_iff.mp y.mro
  show (if (PySem.W.subIn K (.ref D) (.type "BaseException") == some true) = true then (if ((PySem.W.clsIn K D).isSome && PySem.W.typeIn K (.ref D) == some (.type "type")) = true then PySem.W.subIn K (.ref C) (.ref D) else none) else none) = _
  rw [y.ex.exC, if_pos (by rfl), h1, y.ty, if_pos (by rfl), x.sub, List.contains_cons, tl_ref, Bool.or_false]
  by_cases h : C = D
  · subst h
    rw [beq_self_eq_true, decide_eq_true rfl]
  · rw [decide_eq_false h]
    exact congrArg some (beq_eq_false_iff_ne.mpr fun z => h (Value.ref.inj z).symm)
/-! f(k = v, ..): keywords alone -/
section
variable {X : Cx} {CX : CXT} {k : Nat} {f : Addr} {fd : FuncData} {ps ks : List Str} {sp : Sp} {x : Str} {p pos : Pos} {kws : List Keyword} {tk : TA} {g : List Value → List Value → List Value} {gV : List V → List V → List V}
theorem pe_callK0 {E : XK} (F : FnOk X.prog X.w X.K X.mg X.base CX k f fd ps sp) (hr : Room k X.A) (hg : Gl X x) (hm : X.mg x = some (.ref f)) (hk : PySem.W.keepIn X.K (.ref f) = true) (hb : KBn X.K fd ps 0 ks g gV) (hx : Passes CX X E) (hkw : PK X kws tk)
    (hall : (backToKw pos (keywordEach kws X.env)).all (·.1.isSome) = true := by rfl) (hks : (backToKw pos (keywordEach kws X.env)).filterMap (·.1) = ks := by rfl) (hdb : (x == ("__debug__" : Str)) = false := by decide)
    (hpl : ((backTo pos (starEach [] X.env)).any (·.1) || (backToKw pos (keywordEach kws X.env)).any (·.1.isNone)) = false := by rfl) :
    PE X (.Call (.Name x p) [] kws pos) (tCallN 0 ks.length sp gV E tNil tk) := by
  refine ⟨fun pins s σ H Q I h => ?_⟩
  refine wpAny_Call_Name_kw (ld_glob I hg hm ?_ hdb)
  refine PySem.W.callWith_KW0 (h₀ := X.base) I.ok.mod.kin hk hall ?_ hpl
  refine thn (hkw.run pos pins s σ H _ I h) fun ws s2 ⟨zs, H2, I2, rz, l1, l2, q2⟩ => ⟨I2.kIn, ?_⟩
  rw [hks]
  exact run_fnN (us := []) (vs := []) F hr hb hx I2 .nil rz rfl l2 q2
/-- the same where what is raised is wished for at the caller's slots -/
def tCallKS (m : Nat) (sp : Sp) (gV : List V → List V → List V) (E : L2.St → XK) (tk : TA) : TE := fun σ H Q => tk σ H fun zs H2 => zs.length = m ∧ sp (gV [] zs) H2 Q (E σ)
theorem pe_callKS {E : L2.St → XK} (F : FnOk X.prog X.w X.K X.mg X.base CX k f fd ps sp) (hr : Room k X.A) (hg : Gl X x) (hm : X.mg x = some (.ref f)) (hk : PySem.W.keepIn X.K (.ref f) = true) (hb : KBn X.K fd ps 0 ks g gV) (hx : ∀ σ, PassesAt CX X σ (E σ)) (hkw : PK X kws tk)
    (hall : (backToKw pos (keywordEach kws X.env)).all (·.1.isSome) = true := by rfl) (hks : (backToKw pos (keywordEach kws X.env)).filterMap (·.1) = ks := by rfl) (hdb : (x == ("__debug__" : Str)) = false := by decide)
    (hpl : ((backTo pos (starEach [] X.env)).any (·.1) || (backToKw pos (keywordEach kws X.env)).any (·.1.isNone)) = false := by rfl) :
    PE X (.Call (.Name x p) [] kws pos) (tCallKS ks.length sp gV E tk) := by
  refine ⟨fun pins s σ H Q I h => ?_⟩
  refine wpAny_Call_Name_kw (ld_glob I hg hm ?_ hdb)
  refine PySem.W.callWith_KW0 (h₀ := X.base) I.ok.mod.kin hk hall ?_ hpl
  refine thn (hkw.run pos pins s σ H _ I h) fun ws s2 ⟨zs, H2, I2, rz, l2, q2⟩ => ⟨I2.kIn, ?_⟩
  rw [hks]
  have r2 := hb.rel (vs := []) (us := []) .nil rz
  refine wpAny_call (codeAny_mono (F.run X.A X.stack s2 H2 ⟨[], ks.zip ws⟩ (g [] ws) (gV [] zs) Q (E σ) hr I2.env0 (hb.to s2 [] ws I2.kIn rfl (rz.length.symm.trans l2)) r2 q2) fun r s' hq => ?_)
  cases r with
  | error e => exact hx σ pins H2 s2 e s' I2 hq
  | ok fl =>
    cases fl with
    | ret u => exact I2.after hq
    | next => exact False.elim hq
    | brk => exact False.elim hq
    | cont => exact False.elim hq
end
end Ov
set_option Elab.async false
set_option linter.all false
set_option maxRecDepth 100000
set_option maxHeartbeats 4000000
namespace Ov
open PySem L2 PySem.Spec PyProof.Rows
/-! sequences that are lists or tuples -/
/-- a tuple whose object has no dict of its own -/
def TP (H : Hp) (a : Addr) (xs : List V) : Prop := ∃ o : Obj, H a = some (.frz o (.tup xs)) ∧ o.dict = none
theorem TP.sq {K : PySem.W.Frag} {H : Hp} {a : Addr} {xs : List V} (h : TP H a xs) : SqT K H a xs := let ⟨o, e, _⟩ := h; .inl (.inr ⟨o, e⟩)
theorem TP.same {H H' : Hp} {a : Addr} {xs : List V} (h : TP H a xs) (s : Same H H') : TP H' a xs := let ⟨o, e, d⟩ := h; ⟨o, s _ _ e, d⟩
theorem TP.new {H : Hp} {a : Addr} {xs : List V} {o : Obj} (d : o.dict = none) : TP (upd H a (.frz o (.tup xs))) a xs := ⟨o, upd_same, d⟩
theorem TP.some {H : Hp} {a : Addr} {xs : List V} (h : TP H a xs) : ∃ o, H a = some o := let ⟨o, e, _⟩ := h; ⟨_, e⟩
theorem seqP {K : PySem.W.Frag} {H H' : Hp} {a : Addr} {xs : List V} (s : Same H H') (h : TP H a xs) : SqT K H' a xs := (h.same s).sq
section
open PySem.Spec PyProof.Rows
/-- a new tuple of the items us -/
def bo (us : List Value) : Obj := { cls := .type "tuple", data := .seq us.toArray }
theorem bo_ok {P : Program} {w : World} {H : Hp} {h : Heap} {p : Addr} {xs : List V} {us : List Value} (e : h.get? p = some (bo us)) (r : Vals xs us) (z : xs.length ≤ sizeLine) : ObjOk P w H h p (.frz (bo us) (.tup xs)) :=
  ⟨e, z, us, r, _, e, rfl, 0, rfl⟩
variable {X : Cx}
theorem bo_laid {pins : List (Addr × Obj)} {σ : L2.St} {H : Hp} {s : Shared} {xs : List V} {us : List Value} (I : Inv X pins σ H s) (r : Vals xs us) (z : xs.length ≤ sizeLine) : Inv X pins σ (upd H s.heap.objs.size (.frz (bo us) (.tup xs))) { s with heap := s.heap.push (bo us) } :=
  I.laid (t' := s.toks) (fun b u e => Heap.get?_push_of_some _ e) (Nat.le_refl _) (bo_ok (Heap.get?_push_size _ rfl) r z)
/-- (a, b, ..) -/
def tTupB (t : TA) : TE := fun σ H Q => t σ H fun xs H1 => xs.length ≤ sizeLine ∧ ∀ p o, H1 p = none → o.dict = none → Q (.ref p) (upd H1 p (.frz o (.tup xs)))
theorem pe_tupB {es : List Expr} {t : TA} {x1} {pos : Pos} (h : PA X es t) : PE X (.Tuple es x1 pos) (tTupB t) :=
  ⟨fun pins s σ H Q I hq => wpAny_Tuple_spliced (thn (h.run pos pins s σ H _ I hq) fun us s1 ⟨xs, H1, I1, r, z, q⟩ => ⟨by rw [← r.length]; exact z, ⟨.ref s1.heap.objs.size, _, bo_laid I1 r z, rfl, q _ _ (I1.hok.fresh (Nat.le_refl _)) rfl⟩⟩)⟩
end
def Sq (K : PySem.W.Frag) (H : Hp) (a : Addr) (xs : List V) : Prop := SqL K H a xs ∨ SqT K H a xs
theorem Sq.same {K : PySem.W.Frag} {H H' : Hp} {a : Addr} {xs : List V} (h : Sq K H a xs) (s : Same H H') : Sq K H' a xs := h.imp (fun z => s.seq z) (fun z => seqT s z)
section
variable {X : Cx}
/-- tuple(x), by its items -/
def rTupW (K : PySem.W.Frag) : List V → Hp → VK → Prop := fun vs H Q => ∃ (a : Addr) (xs : List V), vs = [.ref a] ∧ (SqL K H a xs ∨ TP H a xs) ∧ ∀ p H', Same H H' → TP H' p xs → Q (.ref p) H'
theorem call_tupW : CallR X (.type "tuple") (rTupW X.K) := by
  intro pins s σ H vs us Q I r h
  obtain ⟨a, xs, rfl, hs, q⟩ := h
  rw [Vals.ref1 r]
  rcases hs with hs | hs
  · obtain ⟨its, r', pl, hz⟩ := I.list hs
    refine call_tuple_list pl.isList (fun h' kp => ?_) (by have := r'.length; simp only [List.size_toArray]; omega)
    have I1 : Inv X pins σ H { s with heap := h' } := I.kept (t' := s.toks) kp
    exact ⟨.ref h'.objs.size, _, bo_laid I1 r' hz, rfl, q _ _ (same_new (I1.hok.fresh (Nat.le_refl _)) _) (TP.new rfl)⟩
  · obtain ⟨its, r', pl, hz⟩ := I.tuple hs.sq
    exact call_tuple_same pl ⟨.ref a, H, I, rfl, q a H (same_refl H) hs⟩
end
/-! numbers among numbers -/
end Ov
set_option Elab.async false
set_option linter.all false
set_option maxRecDepth 100000
set_option maxHeartbeats 4000000
namespace Ov
open PySem L2 PySem.Spec PyProof.Rows
/-! Calls where no repr is under way around: as FnOk, but the guards around are known to be none. -/
structure FnG (P : Program) (w : World) (K : PySem.W.Frag) (mg : Str → Option Value) (base : Heap) (k : Nat) (f : Addr) (fd : FuncData) (ps : List Str) (sp : Sp) : Prop where
  count : ∀ {vs H Q E}, sp vs H Q E → vs.length = ps.length
  go : ∀ {A : Around} {outer : List Env} {s : Shared} {H : Hp} {args : Args} {us : List Value} {vs : List V} {Q : VK} {E : XK}, A.guards = some [] → Room k A → Env0 P w K mg base A outer s H →
    BindsTo s fd args (ps.zip us) → Vals vs us → sp vs H Q E → codeAny (model P w) A (.call (.ref f) args) (CR L2.CX0 outer P w H s Q E) s
section
variable {P : Program} {w : World} {K : PySem.W.Frag} {mg : Str → Option Value} {base : Heap}
theorem Fun.okG {x qual : Str} {st : Stmt} {f : Addr} {fd : FuncData} {N ps : List Str} {k : Nat} {sp : Sp} (F : Fun K x qual st f fd) (S : FnScope N ps (defScope st))
    (len : ∀ vs H Q E, sp vs H Q E → vs.length = ps.length)
    (body : ∀ (cd : Value) (A : Around) (outer : List Env) (s : Shared) (H : Hp) (vs : List V) (Q : VK) (E : XK), A.guards = some [] →
      Room k (A.deeper (envOfC qual (defScope st) s.heap.objs.size f cd)) → sp vs H Q E →
      ∃ t, PSs (cxOf L2.CX0 P w K mg base N qual (defScope st) f cd A outer s H E).nox (defBody st) t ∧ t { nx := fun _ H' => Q .non H', rt := Q } (start N vs) H) :
    FnG P w K mg base (k + 1) f fd ps sp := by
  obtain ⟨_, _, _, _, _, _, cd, _, _, rfl, lk, hcd⟩ := F.ex
  refine ⟨fun h => len _ _ _ _ h, ?_⟩
  intro A outer s H args us vs Q E hg hr e0 hb r hsp
  have up : ∀ b o, base.get? b = some o → s.heap.get? b = some o := fun b o e => (e0.bs b o e).1
  have kin := e0.mod.kin.keeps up
  refine codeAny_call_function hr.depth (kin _ _ lk) rfl S.co S.gen rfl (PySem.W.codeRec_of kin hcd) (hb _ _ _ _ ?_)
  refine wpAny_newFunctionEnv_cells S.kind (fun y hy => (S.par y.1 (List.of_mem_zip hy).1).imp id fun q => And.intro q (PySem.W.cellsFrom_some _ _ _ (.inl q))) ?_
  intro env he s1 x
  cases he
  refine ⟨(e0.mod.nolimit.keeps up).keeps x.toInCall.keep, codeAny_func ?_⟩
  obtain ⟨t, ht, hq⟩ := body cd A outer s H vs Q E hg (hr.deeper _) hsp
  refine wpAny_mono (ht.nox.run _ _ _ _ _ (inv_start S hr.hd e0 (len _ _ _ _ hsp) r x) hq) ?_ fun _ _ z => z
  intro fl s' hs
  match fl, hs with
  | .ret u, ⟨v, _, H', J, rv, q⟩ => exact ⟨v, H', J.os, J.bare, J.base, J.hok, rv, q⟩
  | .next, ⟨_, H', J, q⟩ => exact ⟨.non, H', J.os, J.bare, J.base, J.hok, rfl, q⟩
  | .brk, ⟨_, _, _, q⟩ => exact q.elim
  | .cont, ⟨_, _, _, q⟩ => exact q.elim
end
/-! repr of data -/
/-! the head, for FnG: the script alone is tracked (or it is one of the module's own objects) -/
section
variable {P : Program} {w : World} {K : PySem.W.Frag} {mg mb : Str → Option Value} {k : Nat} {fa a : Addr} {fd : FuncData} {x : Str} {sp : Sp} {s : Shared} {vs : List Value} {ns : List Int}
def scriptH (K : PySem.W.Frag) (a : Addr) (vs : List Value) (ns : List Int) : Hp := fun b => if b = a ∧ K.lookup a = none then some (.frz { cls := .type "list", data := .seq vs.toArray } (.lst (ns.map V.int))) else none
theorem scriptH_at {b : Addr} {o : HO} (h : scriptH K a vs ns b = some o) : b = a ∧ K.lookup a = none ∧ o = .frz { cls := .type "list", data := .seq vs.toArray } (.lst (ns.map V.int)) := by
  unfold scriptH at h
  split at h
  · rename_i q
    cases h
    exact ⟨q.1, q.2, rfl⟩
  · cases h
theorem headG (kin : K.In s.heap) (hns : s.heap.Ns mainGlobals mg) (hb : s.heap.Ns builtinsNs mb) (hbb : ∀ y : Str, y ≠ "__name__" → mb y = bootBuiltins y) (lim : s.heap.NoLimit) (hg : s.gens = #[])
    (ha : s.heap.get? a = some { cls := .type "list", data := .seq vs.toArray }) (hi : IntsAre vs ns) (hl : ns.length ≤ sizeLine) (hr : Room k callerA)
    (F : ∀ base : Heap, K.In base → base.Ns mainGlobals mg → FnG P w K mg base k fa fd [x] sp) (bind : ∀ (s : Shared) (u : Value), BindsTo s fd ⟨[u], []⟩ [(x, u)])
    (hsp : ∀ H : Hp, SqL K H a (ns.map V.int) → sp [.ref a] H (fun v _ => v = .bl true) fun _ _ _ => False) :
    codeAny (model P w) callerA (.call (.ref fa) ⟨[.ref a], []⟩) (fun r s' => r = .ok (.ret (.bool true)) ∧ OldK s.heap s'.heap ∧ s'.os = s.os ∧ AllBare s'.gens) s := by
  have rv := vals_ints hi
  have nk : ∀ {b o}, scriptH K a vs ns b = some o → K.lookup b = none := fun h => by
    obtain ⟨rfl, q, _⟩ := scriptH_at h
    exact q
  have hok : HOk P w (scriptH K a vs ns) s.heap := by
    intro b o h
    obtain ⟨rfl, _, rfl⟩ := scriptH_at h
    exact ⟨ha, by rw [List.length_map]; exact hl, vs, _, rv, ha⟩
  have hS : SqL K (scriptH K a vs ns) a (ns.map V.int) := by
    cases q : K.lookup a with
    | none => exact .inl (.inr ⟨_, if_pos ⟨rfl, q⟩⟩)
    | some o =>
      have e := kin a o q
      rw [ha] at e
      cases e
      exact .inr ⟨_, vs.toArray, _, q, rfl, rfl, rfl, by rw [List.size_toArray, hi.length]; exact hl, by simpa using rv⟩
  have dict : ∀ {b : Addr} {o : Obj} {es : Array DictEntry} {ep : Nat}, s.heap.get? b = some o → o.data = .dict es ep → scriptH K a vs ns b = none := fun {b o es ep} e d => by
    cases q : scriptH K a vs ns b with
    | none => rfl
    | some z =>
      obtain ⟨rfl, _, _⟩ := scriptH_at q
      rw [ha] at e
      cases e
      have d' : Data.seq vs.toArray _ = Data.dict es ep := d
      cases d'
  have ns' : ∀ {b : Addr} {m : Str → Option Value}, s.heap.Ns b m → (hidT s.heap (scriptH K a vs ns)).Ns b m := fun {b m} h => by
    obtain ⟨o, es, ep, e, d, r⟩ := h
    exact ⟨o, es, ep, hidT_get e (dict e d), d, r⟩
  have kin' : K.In (hidT s.heap (scriptH K a vs ns)) := fun b o e => by
    refine hidT_get (kin b o e) ?_
    cases q : scriptH K a vs ns b with
    | none => rfl
    | some z =>
      rw [nk q] at e
      cases e
  have e0 : Env0 P w K mg (hidT s.heap (scriptH K a vs ns)) callerA [] s (scriptH K a vs ns) := by
    obtain ⟨mc, h1, h2⟩ := lim
    exact ⟨rfl, ⟨kin', ns' hns, ⟨mb, ns' hb, hbb⟩, ⟨mc, ns' h1, h2⟩⟩, fun _ _ e => of_hidT e, Nat.le_of_eq (hidT_size _ _), trivial, (fun _ z => nomatch z), hok, .of_eq hg⟩
  refine codeAny_mono ((F _ kin' (ns' hns)).go (us := [.ref a]) (vs := [.ref a]) rfl hr e0 (bind s (.ref a)) (.cons rfl .nil) (hsp _ hS)) fun r s' h => ?_
  match r, h with
  | .error _, h => exact False.elim h
  | .ok .next, h => exact False.elim h
  | .ok .brk, h => exact False.elim h
  | .ok .cont, h => exact False.elim h
  | .ok (.ret u), ⟨v, H', os, bare, un, hok', r', q⟩ =>
    obtain rfl : v = .bl true := q
    obtain rfl : u = Value.bool true := r'
    refine ⟨rfl, OldK.of_keep fun b o e => ?_, os, bare⟩
    cases q : scriptH K a vs ns b with
    | none => exact un.keep b o e q (fun z => nomatch z) (fun z => nomatch z)
    | some z =>
      obtain ⟨rfl, _, rfl⟩ := scriptH_at q
      have e2 := (hok' _ _ (un.frzs _ _ _ q)).1
      rw [ha] at e
      cases e
      exact e2
theorem walkG {l : PySem.W.OpenLaw} {n k : Nat} {q : Program} {loose : List Str} {XP : (Str → Option Value) → Heap → Prop} {YP : World → Heap → Prop} {d : DefRec} {K : Params → PySem.W.Frag} {sp : World → Sp} {x : Str}
    (hn : l.most = some n) (hn2 : n ≤ sizeLine) (hdf : d.params.defaults = []) (hr : Room k callerA) (hY : ∀ (w : World) (h : Heap), YP w h → (K w.params).In h)
    (F : ∀ (w : World) (mg : Str → Option Value) (fa : Addr) (h : Heap), (K w.params).In h → h.Ns mainGlobals mg → mg d.name = some (.ref fa) →
      ∃ fd : FuncData, (∀ (s : Shared) (u : Value), BindsTo s fd ⟨[u], []⟩ [(x, u)]) ∧ ∀ base : Heap, (K w.params).In base → base.Ns mainGlobals mg → FnG l.prog w (K w.params) mg base k fa fd [x] (sp w))
    (hsp : ∀ (w : World) (H : Hp) (a : Addr) (ns : List Int), ns.length ≤ n → SqL (K w.params) H a (ns.map V.int) → sp w [.ref a] H (fun v _ => v = .bl true) fun _ _ _ => False) :
    PySem.W.WalkO q loose XP YP l.row.toRowW d [] (fun f vs => PySem.call f vs) := by
  refine Att.attach_call hn hdf ?_
  intro w s₀ s₁ mg mb fa o pm cd doc a vs ns G Y ho hd hcd hmg hobj hi hlen hg
  obtain ⟨fd, hb, hF⟩ := F w mg fa _ (hY w _ Y) G.T.g hmg
  exact headG (hY w _ Y) G.T.g G.T.b G.T.builtins G.T.nolimit hg hobj hi (Nat.le_trans hlen hn2) hr hF hb fun H hS => hsp w H a ns hlen hS
end
end Ov
set_option Elab.async false
set_option linter.all false
set_option maxRecDepth 100000
set_option maxHeartbeats 4000000
namespace Ov
open PySem L2 PySem.Spec PyProof.Rows
/-! len(set(t)), t a tuple of numbers -/
section
variable {X : Cx}
def tLenSetT (K : PySem.W.Frag) (ta : TE) : TE := fun σ H Q => ta σ H fun x H1 => ∃ (l : Addr) (ns : List Int), x = V.ref l ∧ SqT K H1 l (ns.map V.int) ∧ ns.length ≤ 1000 ∧
  ∀ out : List Int, out.Nodup → (∀ k, k ∈ out ↔ k ∈ ns) → Q (.int out.length) H1
theorem pe_lenSetT {a : Expr} {ta : TE} {p p2 q pos : Pos} (hc : X.calm = true) (hg : Gl X "len") (hm : X.mg "len" = none) (hg2 : Gl X "set") (hm2 : X.mg "set" = none) (ha : PE X a ta)
    (na : starEach [a] X.env = (false, eval a X.env) :: starEach [] X.env := by rfl) : PE X (.Call (.Name "len" p) [.Call (.Name "set" p2) [a] [] q] [] pos) (tLenSetT X.K ta) := by
  refine ⟨fun pins s σ H Q I h => Call_ (ld_blt I hg hm PySem.boot_len (callWith_builtin1 (args_cons (Call_ (ld_blt I hg2 hm2 boot_set (callWith_type1 (args_cons ?_ na) na rfl))) rfl) rfl rfl))⟩
  refine thn (ha.run pins s σ H _ I h) ?_
  rintro v s1 ⟨x, H1, J, r, l, ns, rfl, hq, hn, k⟩
  cases r
  refine args_nil ?_
  obtain ⟨its, rv, pt, hz⟩ := J.tuple hq
  have hi : IntsAre its.toArray.toList ns := ints_of_vals rv
  refine call_set_tupI ns (J.ok.hd hc) pt hi (by unfold scanBound; omega) ?_
  rintro h' tk c ⟨o, es, ep, t, ho, ex, hd, _, nd, mem, hb, hf, hs, _, _⟩ hcn kp
  refine args_nil ?_
  have e := k (es.toList.map keyOf) nd fun j => by rw [← mem j, decide_eq_true_eq]
  rw [List.length_map, Array.length_toList] at e
  exact call_len_set ho ex hd hf (by rw [hs]; omega) ⟨.int es.size, H1, (J.kept kp).tok _, ⟨_, rfl⟩, e⟩
end
/-! t[::-1], t a tuple -/
section
variable {prog : Program} {w : World} {A : Around} {E : Value → Shared → Prop} {s : Shared}
theorem fm_congr {α β : Type} {f g : α → Option β} : ∀ {l : List α}, (∀ x ∈ l, f x = g x) → l.filterMap f = l.filterMap g
  | [], _ => rfl
  | x :: l, h => by rw [List.filterMap_cons, List.filterMap_cons, h x (List.mem_cons_self ..), fm_congr fun y hy => h y (List.mem_cons_of_mem _ hy)]
theorem rev_pick (xs : Array Value) : ((List.range xs.size).filterMap fun (m : Nat) => xs[((xs.size : Int) - 1 + (m : Int) * (-1)).toNat]?).toArray = xs.toList.reverse.toArray := by
  rw [← PySem.W.krv_pick xs]
  unfold slicePick
  rw [PySem.W.krv_bounds]
  show _ = ((sliceRange ((xs.size : Int) - 1) (-1) (-1)).filterMap (xs[·]?)).toArray
  rw [PySem.W.krv_sliceRange, List.filterMap_map]
  refine congrArg List.toArray (fm_congr fun k hk => ?_)
  have := List.mem_range.mp hk
  show xs[((xs.size : Int) - 1 + (k : Int) * (-1)).toNat]? = xs[xs.size - 1 - k]?
  rw [show ((xs.size : Int) - 1 + (k : Int) * (-1)).toNat = xs.size - 1 - k by omega]
theorem applied_rev {sl : Addr} {vl vu vs : Value} {n : Nat} {Q : Int × Int × Nat → Shared → Prop} (hs : s.heap.IsSliceOf sl vl vu vs) (pl : IsPart vl none) (pu : IsPart vu none) (ps : IsPart vs (some (-1)))
    (h : Q ((n : Int) - 1, -1, n) s) : wpAny (model prog w) A (Builtin.Slice.sliceApplied (.ref sl) (pure (n : Int))) Q E s := by
  obtain ⟨os, hos, _, hds⟩ := hs
  unfold Builtin.Slice.sliceApplied Builtin.Slice.sliceFields
  refine wpAny_bind (wpAny_bind (wpAny_field hos hds (x := vl) rfl (wpAny_bind (wpAny_field hos hds (x := vu) rfl (wpAny_bind (wpAny_field hos hds (x := vs) rfl (wpAny_pure ?_)))))))
  refine wpAny_bind (HT.slicePart_ ps ?_)
  show wpAny _ _ (if ((-1 : Int) == 0) = true then _ else _) _ _ s
  rw [if_neg (by decide)]
  refine wpAny_bind (HT.slicePart_ pl (wpAny_bind (HT.slicePart_ pu (wpAny_bind (wpAny_pure ?_)))))
  have e1 : Builtin.Slice.sliceAdjust none none (-1) (n : Int) = ((n : Int) - 1, -1) := by
    unfold Builtin.Slice.sliceAdjust
    simp
  have e2 : Builtin.Slice.slicePlaces ((n : Int) - 1) (-1) (-1) = n := by
    unfold Builtin.Slice.slicePlaces
    simp
    try omega
  show wpAny _ _ (match Builtin.Slice.sliceAdjust none none (-1) (n : Int) with | (lo, hi) => pure (lo, (-1 : Int), Builtin.Slice.slicePlaces lo hi (-1))) _ _ s
  rw [e1]
  show wpAny _ _ (pure ((n : Int) - 1, (-1 : Int), Builtin.Slice.slicePlaces ((n : Int) - 1) (-1) (-1))) _ _ s
  rw [e2]
  exact wpAny_pure h
theorem item_rev {t sl : Addr} {items : Array Value} {vl vu vs : Value} {Q : Value → Shared → Prop} (ht : IsTup s.heap t items) (hs : s.heap.IsSliceOf sl vl vu vs) (pl : IsPart vl none) (pu : IsPart vu none) (ps : IsPart vs (some (-1)))
    (h : Q (.ref s.heap.objs.size) { s with heap := s.heap.push { cls := .type "tuple", data := .seq items.toList.reverse.toArray } }) (hz : items.size ≤ sizeLine) : wpAny (model prog w) A (getItem (.ref t) (.ref sl)) Q E s := by
  have tS : s.TypeIs (.ref sl) "slice" := by
    obtain ⟨os, hos, hcs, _⟩ := hs
    exact ⟨os, hos, hcs⟩
  have fit : sizeOk (.seq items.toList.reverse.toArray) := by
    show items.toList.reverse.toArray.size ≤ sizeLine
    rw [List.size_toArray, List.length_reverse, Array.length_toList]
    exact hz
  unfold getItem
  try with_reducible refine wpAny_holding ?_
  first | refine wpAny_bind (wpAny_pure ?_) | skip
  refine wpAny_bind (wpAny_sequenceKey ht.typeIs (by decide) (wpAny_bind (wpAny_callSpecial?_slot (name := Str.ofString "__getitem__") ht.typeIs slot_tuple_getitem ?_)))
  refine wpAny_call_entry slot_tuple_getitem ht.typeIs entry_tuple_getitem ?_ (args_tuple_getitem _ _)
  show wpAny _ _ (Builtin.Tuple.tupleItemsOf (.ref t) >>= _) _ _ s
  refine wpAny_bind (tupleItemsOf_ ht (wpAny_bind (wpAny_typeOf tS ?_)))
  rw [if_pos (by decide)]
  refine wpAny_bind (applied_rev hs pl pu ps ?_)
  have no : ¬ ((((items.size : Int) - 1) == 0 && (-1 : Int) == 1 && items.size == items.size) = true) := fun q => by
    rw [Bool.and_eq_true, Bool.and_eq_true] at q
    exact absurd q.1.2 (by decide)
  show wpAny _ _ (if (((items.size : Int) - 1) == 0 && (-1 : Int) == 1 && items.size == items.size) = true then _ else _) _ _ s
  rw [if_neg no, rev_pick]
  first
    | exact wpAny_bind (m := Builtin.Tuple.tupleExact _) (wpAny_newObj_type (wpAny_pure ⟨_, rfl, wpAny_pure h⟩) fit)
    | exact wpAny_bind (wpAny_bind (m := Builtin.Tuple.tupleExact _) (wpAny_newObj_type (wpAny_pure ⟨_, rfl, wpAny_pure h⟩) fit))
end
section
variable {X : Cx}
def tRevW (K : PySem.W.Frag) (te : TE) : TE := fun σ H Q => te σ H fun x H1 => ∃ (a : Addr) (xs : List V), x = .ref a ∧
  ((SqL K H1 a xs ∧ ∀ p H', Same H1 H' → H1 p = none → H' p = some (.lst xs.reverse) → Q (.ref p) H') ∨ (SqT K H1 a xs ∧ ∀ p H', Same H1 H' → H1 p = none → TP H' p xs.reverse → Q (.ref p) H'))
theorem pe_revW {e : Expr} {te : TE} {k : Nat} {p1 p2 p3 pos : Pos} (he : PE X e te) : PE X (.Subscript e (.Slice none none (some (.UnaryOp .USub (.Constant (.int 1) k p1) p2)) p3) pos) (tRevW X.K te) := by
  refine ⟨fun pins s σ H Q I h => Subscript_ (thn (he.run pins s σ H _ I h) ?_)⟩
  rintro v s1 ⟨x, H1, I1, r1, a, xs, rfl, q⟩
  cases r1
  have none_ : ∀ {s' : Shared} {G : Hp} (J : Inv X pins σ G s'), wpAny (model X.prog X.w) X.A (evalPart none X.env) (fun v s2 => IsPart v none ∧ Inv X pins σ G s2) X.xe s' := fun {s' G} J =>
    thn (po_none.run pins s' σ G (fun o H2 => o = none ∧ H2 = G) J ⟨rfl, rfl⟩) fun v s2 ⟨l, H2, J2, pl, el, e2⟩ => by
      subst el e2
      exact ⟨pl, J2⟩
  have st : PO X (some (.UnaryOp .USub (.Constant (.int 1) k p1) p2)) (tPart (tUn (rU fun i => .int (-i)) (tC (.int 1)))) := po_some (pe_un un_neg pe_int)
  refine wpAny_Slice (thn (none_ I1) ?_)
  rintro vl s2 ⟨pl, I2⟩
  refine thn (none_ I2) ?_
  rintro vu s3 ⟨pu, I3⟩
  refine thn (st.run pins s3 σ H1 (fun o H4 => o = some (-1) ∧ H4 = H1) I3 ⟨1, rfl, -1, rfl, rfl, rfl⟩) ?_
  rintro vs s4 ⟨o, H4, I4, ps, rfl, rfl⟩
  have I5 : Inv X pins σ H4 { s4 with heap := s4.heap.push { cls := .type "slice", data := .fields #[vl, vu, vs] } } := I4.kept (t' := s4.toks) fun b ob z => Heap.get?_push_of_some _ z
  rcases q with ⟨hx, q⟩ | ⟨hx, q⟩
  · obtain ⟨its, r, ht, hz⟩ := I5.list hx
    refine tail_any (ops := [.ref a, .ref s4.heap.objs.size]) ht.isList.typeIs PySem.slot_list_getitem.lookup ?_ (by with_unfolding_all rfl)
    refine wpAny_getItem_list_slice ht.isList (Heap.IsSliceOf.new _ vl vu vs) pl pu ps (by decide) ?_ (by rw [List.size_toArray, ← r.length]; exact hz)
    rw [PySem.W.krv_pick]
    have fr := I5.hok.fresh (Nat.le_refl _)
    exact ⟨.ref _, _, I5.laid (t' := s4.toks) (o := .lst xs.reverse) (fun b ob z => Heap.get?_push_of_some _ z) (Nat.le_refl _) ⟨by rw [List.length_reverse]; exact hz, _, 0, r.reverse, Heap.get?_push_size _ rfl⟩, rfl, q _ _ (same_new fr _) fr upd_same⟩
  · obtain ⟨its, r, ht, hz⟩ := I5.tuple hx
    refine tail_any (ops := [.ref a, .ref s4.heap.objs.size]) ht.typeIs slot_tuple_getitem.lookup ?_ (by with_unfolding_all rfl)
    refine item_rev ht (Heap.IsSliceOf.new _ vl vu vs) pl pu ps ?_ (by rw [List.size_toArray, ← r.length]; exact hz)
    have fr := I5.hok.fresh (Nat.le_refl _)
    exact ⟨.ref _, _, bo_laid I5 r.reverse (by rw [List.length_reverse]; exact hz), rfl, q _ _ (same_new fr _) fr (TP.new rfl)⟩
end
end Ov
set_option Elab.async false
set_option linter.all false
set_option maxRecDepth 100000
set_option maxHeartbeats 4000000
namespace Ov
open PySem L2 PySem.Spec PyProof.Rows
/-! enumerate(v), enumerate(v, start=k), v a list or a tuple that stays as it is -/
def YPairB (xs ys : Nat → Option V) : Nat → Hp → V → Hp → Prop := fun i H v H' => ∃ (T : Addr) (x y : V) (o : Obj), v = .ref T ∧ H T = none ∧ o.dict = none ∧ H' = upd H T (.frz o (.tup [x, y])) ∧ xs i = some x ∧ ys i = some y
section
variable {X : Cx} {pins : List (Addr × Obj)} {σ : L2.St} {elts : List Expr} {kk : Nat} {tpos : Pos} {R : It → Hp → Prop} {s : Shared} {H : Hp} {a : Addr} {k : Int} {xs : List V} {h' : Heap}
theorem fp2 (I : L2.Inv X pins σ H s) : ∀ b ∈ [s.heap.objs.size + 1, s.heap.objs.size], FpOk X pins H b := fun b hb => by
  have le : s.heap.objs.size ≤ b := by
    rcases List.mem_cons.mp hb with z | z
    · rw [z]; exact Nat.le_succ _
    · rw [List.mem_singleton.mp z]; exact Nat.le_refl _
  exact I.fpOk le (I.hok.fresh le)
end
end Ov
set_option Elab.async false
set_option linter.all false
set_option maxRecDepth 100000
set_option maxHeartbeats 4000000
set_option Elab.async false
set_option linter.all false
set_option maxRecDepth 100000
set_option maxHeartbeats 4000000
namespace Ov
open PySem L2
/-! data: their types, numbers, rows -/
def tyD : PyData → String
  | .none => "NoneType"
  | .bool _ => "bool"
  | .int _ => "int"
  | .str _ => "str"
  | .list _ => "list"
  | .tuple _ => "tuple"
  | .dict _ => "dict"
theorem dp_ty {K : PySem.W.Frag} {H : Hp} {v : V} {d : PyData} (h : Dp K H v d) : TyX K H v (.type (tyD d)) := by
  cases h with
  | non => exact .base .non
  | bl b => exact .base (.bl b)
  | int i => exact .base (.int i)
  | str x => exact .base (.str x)
  | lst h _ => exact tyL h
  | tup h _ => exact tyT h
def isI : PyData → Bool
  | .int _ => true
  | _ => false
def isB : PyData → Bool
  | .bool _ => true
  | _ => false
def isT : PyData → Bool
  | .tuple _ => true
  | _ => false
def isL : PyData → Bool
  | .list _ => true
  | _ => false
theorem kit_int : ∀ d : PyData, kitB (tyD d) "int" = some (isI d || isB d)
  | .none => (by decide +kernel : kitB "NoneType" "int" = some false)
  | .bool _ => (by decide +kernel : kitB "bool" "int" = some true)
  | .int _ => (by decide +kernel : kitB "int" "int" = some true)
  | .str _ => (by decide +kernel : kitB "str" "int" = some false)
  | .list _ => (by decide +kernel : kitB "list" "int" = some false)
  | .tuple _ => (by decide +kernel : kitB "tuple" "int" = some false)
  | .dict _ => (by decide +kernel : kitB "dict" "int" = some false)
theorem kit_bool : ∀ d : PyData, kitB (tyD d) "bool" = some (isB d)
  | .none => (by decide +kernel : kitB "NoneType" "bool" = some false)
  | .bool _ => (by decide +kernel : kitB "bool" "bool" = some true)
  | .int _ => (by decide +kernel : kitB "int" "bool" = some false)
  | .str _ => (by decide +kernel : kitB "str" "bool" = some false)
  | .list _ => (by decide +kernel : kitB "list" "bool" = some false)
  | .tuple _ => (by decide +kernel : kitB "tuple" "bool" = some false)
  | .dict _ => (by decide +kernel : kitB "dict" "bool" = some false)
theorem kit_tuple : ∀ d : PyData, kitB (tyD d) "tuple" = some (isT d)
  | .none => (by decide +kernel : kitB "NoneType" "tuple" = some false)
  | .bool _ => (by decide +kernel : kitB "bool" "tuple" = some false)
  | .int _ => (by decide +kernel : kitB "int" "tuple" = some false)
  | .str _ => (by decide +kernel : kitB "str" "tuple" = some false)
  | .list _ => (by decide +kernel : kitB "list" "tuple" = some false)
  | .tuple _ => (by decide +kernel : kitB "tuple" "tuple" = some true)
  | .dict _ => (by decide +kernel : kitB "dict" "tuple" = some false)
theorem kit_list : ∀ d : PyData, kitB (tyD d) "list" = some (isL d)
  | .none => (by decide +kernel : kitB "NoneType" "list" = some false)
  | .bool _ => (by decide +kernel : kitB "bool" "list" = some false)
  | .int _ => (by decide +kernel : kitB "int" "list" = some false)
  | .str _ => (by decide +kernel : kitB "str" "list" = some false)
  | .list _ => (by decide +kernel : kitB "list" "list" = some true)
  | .tuple _ => (by decide +kernel : kitB "tuple" "list" = some false)
  | .dict _ => (by decide +kernel : kitB "dict" "list" = some false)
/-- a height: a number from 1 -/
def isH : PyData → Bool
  | .int i => decide (1 ≤ i)
  | _ => false
def intsOf : List PyData → List Int
  | [] => []
  | .int i :: r => i :: intsOf r
  | _ :: r => intsOf r
def isCrowd : PyData → Bool
  | .tuple ds => ds.all isH && decide (intsOf ds).Nodup
  | _ => false
theorem ints_all : ∀ {ds : List PyData}, ds.all isH = true → ds = (intsOf ds).map PyData.int
  | [], _ => rfl
  | d :: r, h => by
    rw [List.all_cons, Bool.and_eq_true] at h
    cases d with
    | int i => rw [intsOf, List.map_cons, ← ints_all h.2]
    | none => exact absurd h.1 (by decide)
    | bool _ => exact absurd h.1 Bool.false_ne_true
    | str _ => exact absurd h.1 Bool.false_ne_true
    | list _ => exact absurd h.1 Bool.false_ne_true
    | tuple _ => exact absurd h.1 Bool.false_ne_true
    | dict _ => exact absurd h.1 Bool.false_ne_true
mutual
theorem Dp.same {K : PySem.W.Frag} {H H' : Hp} (s : Same H H') : ∀ {v : V} (d : PyData), Dp K H v d → Dp K H' v d
  | _, .none, h => by cases h; exact .non
  | _, .bool b, h => by cases h; exact .bl b
  | _, .int i, h => by cases h; exact .int i
  | _, .str x, h => by cases h; exact .str x
  | _, .list ds, h => by cases h with | lst q t => exact .lst (s.seq q) (DpAll.same s ds t)
  | _, .tuple ds, h => by cases h with | tup q t => exact .tup (seqT s q) (DpAll.same s ds t)
  | _, .dict _, h => by cases h
theorem DpAll.same {K : PySem.W.Frag} {H H' : Hp} (s : Same H H') : ∀ {xs : List V} (ds : List PyData), DpAll K H xs ds → DpAll K H' xs ds
  | _, [], h => by cases h; exact .nil
  | _, d :: ds, h => by cases h with | cons q t => exact .cons (Dp.same s d q) (DpAll.same s ds t)
end
/-- numbers all different, or not, by their count -/
theorem dup_at : ∀ {ns : List Int}, ¬ ns.Nodup → ∃ a x b, ns = a ++ x :: b ∧ x ∈ b
  | [], h => absurd List.nodup_nil h
  | x :: r, h => by
    by_cases q : x ∈ r
    · exact ⟨[], x, r, rfl, q⟩
    · obtain ⟨a, y, b, e, m⟩ := dup_at (ns := r) fun z => h (List.nodup_cons.mpr ⟨q, z⟩)
      exact ⟨x :: a, y, b, by rw [e]; rfl, m⟩
theorem dedup_len {out ns : List Int} (nd : out.Nodup) (h : ∀ k, k ∈ out ↔ k ∈ ns) : decide ((out.length : Int) = (ns.length : Int)) = decide ns.Nodup := by
  by_cases q : ns.Nodup
  · have e : out.length = ns.length := Nat.le_antisymm (sub_len _ _ nd fun x hx => (h x).mp hx) (sub_len _ _ q fun x hx => (h x).mpr hx)
    rw [decide_eq_true q, decide_eq_true (by omega)]
  · rw [decide_eq_false q]
    obtain ⟨a, x, b, e, m⟩ := dup_at q
    have le := sub_len out (a ++ b) nd fun y hy => by
      have z := (h y).mp hy
      rw [e] at z
      rcases List.mem_append.mp z with z | z
      · exact List.mem_append_left _ z
      · rcases List.mem_cons.mp z with z | z
        · rw [z]; exact List.mem_append_right _ m
        · exact List.mem_append_right _ z
    refine decide_eq_false fun z => ?_
    rw [e] at z
    rw [List.length_append] at le z
    rw [List.length_cons] at z
    omega
end Ov
set_option Elab.async false
set_option linter.all false
set_option maxRecDepth 100000
set_option maxHeartbeats 4000000
set_option Elab.async false
set_option linter.all false
set_option maxRecDepth 100000
set_option maxHeartbeats 4000000
set_option Elab.async false
set_option linter.all false
set_option maxRecDepth 100000
set_option maxHeartbeats 4000000
namespace Ov
open PySem L2
/-! a heap without the box, and without what else is set aside -/
open Classical in
noncomputable def off (S : Addr → Prop) (H : Hp) : Hp := fun b => if S b then none else H b
theorem off_ne {S : Addr → Prop} {b : Addr} {H : Hp} (h : ¬ S b) : off S H b = H b := if_neg h
theorem off_at {S : Addr → Prop} {H : Hp} {b : Addr} {o : HO} (h : off S H b = some o) : ¬ S b ∧ H b = some o := by
  unfold off at h
  split at h
  · cases h
  · exact ⟨by assumption, h⟩
theorem off_sub (S : Addr → Prop) (H : Hp) : Same (off S H) H := fun b o h => (off_at h).2
/-! data of a bounded form -/
def leaf (m : Nat) : PyData → Prop
  | .none => True
  | .bool _ => True
  | .int i => -(10 ^ 30 + (m : Int)) ≤ i ∧ i ≤ 10 ^ 30 + (m : Int)
  | .str x => (reprText x).length ≤ 1100
  | _ => False
def Bd (m : Nat) : Nat → PyData → Prop
  | 0, d => leaf m d
  | n + 1, d => leaf m d ∨ ∃ ds : List PyData, (d = .list ds ∨ d = .tuple ds) ∧ ds.length ≤ 16 + m ∧ ∀ e ∈ ds, Bd m n e
theorem leaf.mono {m k : Nat} (h : m ≤ k) : ∀ {d : PyData}, leaf m d → leaf k d
  | .none, _ => trivial
  | .bool _, _ => trivial
  | .int i, z => by
    obtain ⟨a, b⟩ := z
    exact ⟨by omega, by omega⟩
  | .str _, z => z
theorem Bd.mono {m k : Nat} (h : m ≤ k) : ∀ {n j : Nat} {d : PyData}, n ≤ j → Bd m n d → Bd k j d
  | 0, 0, _, _, z => leaf.mono h z
  | 0, j + 1, _, _, z => .inl (leaf.mono h z)
  | n + 1, j + 1, d, le, z => by
    rcases z with z | ⟨ds, e, l, a⟩
    · exact .inl (leaf.mono h z)
    · exact .inr ⟨ds, e, by omega, fun x hx => Bd.mono h (by omega) (a x hx)⟩
def Ln : Nat → Nat
  | 0 => 2000
  | n + 1 => 18 * (Ln n + 2) + 3
def Fits (n : Nat) (d : PyData) : Prop := d.hasDict = false ∧ d.depth ≤ n + 1 ∧ d.showable = true ∧ d.shown.length ≤ Ln n
theorem log_small {i : Int} (h : -(10 ^ 30 + 2) ≤ i ∧ i ≤ 10 ^ 30 + 2) : i.natAbs.log2 < 1920 := by
  by_cases z : i.natAbs = 0
  · rw [z]
    decide
  · have lt : i.natAbs < 2 ^ 100 := by omega
    exact Nat.lt_trans ((Nat.log2_lt z).mpr lt) (by decide)
theorem leaf_fits {m : Nat} (hm : m ≤ 2) : ∀ {d : PyData}, leaf m d → Fits 0 d
  | .none, _ => ⟨rfl, by decide, rfl, by decide⟩
  | .bool b, _ => ⟨rfl, by show _ ≤ 1; simp [PyData.depth], rfl, by cases b <;> decide⟩
  | .int i, z => by
    have l := log_small (i := i) (by obtain ⟨a, b⟩ := z; exact ⟨by omega, by omega⟩)
    refine ⟨rfl, by simp [PyData.depth], decide_eq_true l, ?_⟩
    have := PyProof.Rows.int_text_len_1921 l
    show (Str.ofString (toString i)).length ≤ 2000
    omega
  | .str x, z => ⟨rfl, by simp [PyData.depth], rfl, by
    have : (reprText x).length ≤ 1100 := z
    show (reprText x).length ≤ 2000
    omega⟩
theorem Bd.size {n : Nat} (h : n ≤ 3) {d : PyData} (f : Fits n d) : d.shown.length ≤ sizeLine := by
  have : ∀ k, k ≤ 3 → Ln k ≤ 2 ^ 24 := fun k hk => by
    match k, hk with
    | 0, _ => decide
    | 1, _ => decide
    | 2, _ => decide
    | 3, _ => decide
  exact Nat.le_trans f.2.2.2 (this n h)
end Ov
set_option Elab.async false
set_option linter.all false
set_option maxRecDepth 100000
set_option maxHeartbeats 4000000
namespace Ov
open PySem L2
/-! data that are sequences, or not; one item less, more, another -/
section
variable {m n : Nat} {ds : List PyData}
/-- a sequence of such data, wider by one at most -/
theorem Bd.seq (l : ds.length ≤ 16 + (m + 1)) (a : ∀ e ∈ ds, Bd (m + 1) n e) : Bd (m + 1) (n + 1) (.list ds) ∧ Bd (m + 1) (n + 1) (.tuple ds) := ⟨.inr ⟨ds, .inl rfl, l, a⟩, .inr ⟨ds, .inr rfl, l, a⟩⟩
end
end Ov
set_option Elab.async false
set_option linter.all false
set_option maxRecDepth 100000
set_option maxHeartbeats 4000000
namespace Ov
open PySem PySem.Spec PyProof.Rows L2
/-! an error without fields: raised, caught, asked for its class -/
section
variable {X : Cx}
/-! caught, with a field or without -/
def Cau0 (K : PySem.W.Frag) (H : Hp) (a C : Addr) : Prop := ∃ k : Nat, Cl K C k ∧ H a = some (exg a C none)
def CauF (K : PySem.W.Frag) (H : Hp) (a C : Addr) (f : Str) (u : V) : Prop := (f ≠ "" ∧ Cau K H a C [(f, u)]) ∨ (f = "" ∧ Cau0 K H a C)
def CauX (K : PySem.W.Frag) (H : Hp) (a C : Addr) : Prop := (∃ fs, Cau K H a C fs) ∨ Cau0 K H a C
theorem CauF.same {K : PySem.W.Frag} {H H' : Hp} {a C : Addr} {f : Str} {u : V} (h : CauF K H a C f u) (s : Same H H') : CauF K H' a C f u := by
  rcases h with ⟨n, h⟩ | ⟨n, k, x, h⟩
  · exact .inl ⟨n, h.same s⟩
  · exact .inr ⟨n, k, x, s _ _ h⟩
theorem CauF.x {K : PySem.W.Frag} {H : Hp} {a C : Addr} {f : Str} {u : V} (h : CauF K H a C f u) : CauX K H a C := by
  rcases h with ⟨n, h⟩ | ⟨n, h⟩
  · exact .inl ⟨_, h⟩
  · exact .inr h
theorem CauX.same {K : PySem.W.Frag} {H H' : Hp} {a C : Addr} (h : CauX K H a C) (s : Same H H') : CauX K H' a C := by
  rcases h with ⟨fs, h⟩ | ⟨k, x, h⟩
  · exact .inl ⟨fs, h.same s⟩
  · exact .inr ⟨k, x, s _ _ h⟩
theorem cauX_kit {pins : List (Addr × Obj)} {σ : L2.St} {H : Hp} {s : Shared} {a C : Addr} (I : Inv X pins σ H s) (h : CauX X.K H a C) : ∃ P : Heap → Prop, PySem.W.KitX X.K (.ref a) (.ref C) P ∧ P s.heap := by
  rcases h with ⟨fs, h⟩ | ⟨k, x, h⟩
  · exact cau_kit I h
  · obtain ⟨oe, vs, he, hc, hd, hf⟩ := exg_at I.hok h
    obtain ⟨cd, hcd, _⟩ := PySem.W.any_some x.ex.hd
    exact ⟨_, PySem.W.kitx_exc (od := none) (by rw [hcd]; rfl) x.ex.ga x.ex.gg x.ex.exC x.ex.ca x.ex.sp x.ex.tk x.ex.mr, ⟨he, hc, by unfold PySem.W.notCls; rw [hf] <;> rfl, by rw [hd]; trivial⟩⟩
def rIsC2 (K : PySem.W.Frag) : List V → Hp → VK → Prop := fun xs H Q => ∃ (a C : Addr) (c : V) (u : Value) (b : Bool), xs = [.ref a, c] ∧ ClsV c u ∧ CauX K H a C ∧ PySem.W.kitOne K (.ref C) u = some b ∧ Q (.bl b) H
theorem call_isC2 : CallR X (.builtin "isinstance") (rIsC2 X.K) := by
  intro pins s σ H xs us Q I r h
  obtain ⟨a, C, c, u, b, rfl, k, ex, e, q⟩ := h
  obtain ⟨u1, u2, rfl, rel1, rel2⟩ := vals2 r
  obtain rfl := k.eq rel2
  obtain rfl : u1 = Value.ref a := rel1
  obtain ⟨P, Z, p⟩ := cauX_kit I ex
  exact PySem.W.kia_one Z I.kIn p e (fun z => nomatch z) fun tk => ⟨.bl b, H, I.tok tk, rfl, q⟩
end
end Ov
set_option Elab.async false
set_option linter.all false
set_option maxRecDepth 100000
set_option maxHeartbeats 2000000
namespace L2
open PySem PySem.Spec PyProof.Rows
/-! dicts whose keys are tuples of numbers and such tuples, their values numbers -/
/-- the object at p is o -/
def objO (p : Addr) (o : Obj) : HO := .ext fun h => h.get? p = some o
mutual
inductive Nk (H : Hp) : V → NestedKey → Prop
  | int (i : Int) : Nk H (.int i) (.num i)
  | tup {a : Addr} {xs : List V} {ks : List NestedKey} : Ov.TP H a xs → NkAll H xs ks → Nk H (.ref a) (.tup ks)
inductive NkAll (H : Hp) : List V → List NestedKey → Prop
  | nil : NkAll H [] []
  | cons {v : V} {k : NestedKey} {vs : List V} {ks : List NestedKey} : Nk H v k → NkAll H vs ks → NkAll H (v :: vs) (k :: ks)
end
section
variable {P : Program} {w : World} {H H' : Hp} {h : Heap}
mutual
theorem Nk.keep (s : ∀ b xs, Ov.TP H b xs → Ov.TP H' b xs) : ∀ (k : NestedKey) {v : V}, Nk H v k → Nk H' v k
  | .num i, _, h => by cases h; exact .int i
  | .tup ks, _, h => by cases h with | tup e t => exact .tup (s _ _ e) (NkAll.keep s ks t)
  | .none, _, h => by cases h
  | .text _, _, h => by cases h
theorem NkAll.keep (s : ∀ b xs, Ov.TP H b xs → Ov.TP H' b xs) : ∀ (ks : List NestedKey) {vs : List V}, NkAll H vs ks → NkAll H' vs ks
  | [], _, h => by cases h; exact .nil
  | k :: ks, _, h => by cases h with | cons a t => exact .cons (Nk.keep s k a) (NkAll.keep s ks t)
end
mutual
theorem Nk.hash : ∀ (k : NestedKey) {v : V}, Nk H v k → ∀ w w' : World, k.hash w = k.hash w'
  | .num i, _, _, _, _ => rfl
  | .tup ks, _, x, w, w' => by
    cases x with
    | tup e t =>
      show reduceHash (Builtin.Tuple.tupleHashOf (NestedKey.hashes w ks)) = reduceHash (Builtin.Tuple.tupleHashOf (NestedKey.hashes w' ks))
      rw [NkAll.hash ks t w w']
  | .none, _, x, _, _ => by cases x
  | .text _, _, x, _, _ => by cases x
theorem NkAll.hash : ∀ (ks : List NestedKey) {vs : List V}, NkAll H vs ks → ∀ w w' : World, NestedKey.hashes w ks = NestedKey.hashes w' ks
  | [], _, _, _, _ => rfl
  | k :: ks, _, x, w, w' => by
    cases x with
    | cons a t =>
      show NestedKey.hash w k :: NestedKey.hashes w ks = NestedKey.hash w' k :: NestedKey.hashes w' ks
      rw [Nk.hash k a w w', NkAll.hash ks t w w']
end
end
abbrev NE := NestedKey × Addr × Value
/-- the entries and what they stand for -/
def NX (H : Hp) : List NE → List (NestedKey × Int) → Prop
  | [], [] => True
  | x :: xs, kv :: kvs => (x.1 = kv.1 ∧ kv.1.depth ≤ 8 ∧ Nk H (.ref x.2.1) kv.1 ∧ ∃ t, x.2.2 = Value.int kv.2 t) ∧ NX H xs kvs
  | _, _ => False
theorem NX.keep {H H' : Hp} (s : ∀ b xs, Ov.TP H b xs → Ov.TP H' b xs) : ∀ {xs : List NE} {kvs : List (NestedKey × Int)}, NX H xs kvs → NX H' xs kvs
  | [], [], _ => trivial
  | _ :: _, kv :: _, ⟨⟨e, d, n, t⟩, r⟩ => ⟨⟨e, d, Nk.keep s kv.1 n, t⟩, NX.keep s r⟩
  | [], _ :: _, h => h.elim
  | _ :: _, [], h => h.elim
theorem NX.keys {H : Hp} : ∀ {xs : List NE} {kvs : List (NestedKey × Int)}, NX H xs kvs → xs.map (·.1) = kvs.map (·.1)
  | [], [], _ => rfl
  | _ :: _, kv :: _, ⟨⟨e, _⟩, r⟩ => by rw [List.map_cons, List.map_cons, e, NX.keys r]
  | [], _ :: _, h => h.elim
  | _ :: _, [], h => h.elim
theorem NX.len {H : Hp} {xs : List NE} {kvs : List (NestedKey × Int)} (h : NX H xs kvs) : xs.length = kvs.length := by
  have := congrArg List.length h.keys
  rwa [List.length_map, List.length_map] at this
theorem NX.app {H : Hp} : ∀ {xs ys : List NE} {kvs jvs : List (NestedKey × Int)}, NX H xs kvs → NX H ys jvs → NX H (xs ++ ys) (kvs ++ jvs)
  | [], _, [], _, _, h => h
  | _ :: _, _, _ :: _, _, ⟨a, r⟩, h => ⟨a, NX.app r h⟩
  | [], _, _ :: _, _, h, _ => h.elim
  | _ :: _, _, [], _, h, _ => h.elim
theorem NX.get {H : Hp} : ∀ {xs : List NE} {kvs : List (NestedKey × Int)} {i : Nat} {kv : NestedKey × Int}, NX H xs kvs → kvs[i]? = some kv → ∃ b t, xs[i]? = some (kv.1, b, Value.int kv.2 t) ∧ Nk H (.ref b) kv.1
  | (k, b, v) :: _, (k', v') :: _, 0, kv, ⟨⟨e1, e2, e3, t, e4⟩, _⟩, h => by
    cases h
    cases (show k = k' from e1)
    cases (show v = Value.int v' t from e4)
    exact ⟨b, t, rfl, e3⟩
  | _ :: _, _ :: _, i + 1, kv, ⟨_, r⟩, h => NX.get (i := i) r (by simpa using h)
  | [], [], _, _, _, h => by simp at h
  | [], _ :: _, _, _, h, _ => h.elim
  | _ :: _, [], _, _, h, _ => h.elim
/-- what the object o says of the entries -/
def NOb (p : Addr) (o : Obj) (xs : List NE) : Prop := (p == sysModules) = false ∧ o.ExactDict ∧ ∃ es ep, o.data = .dict es ep ∧ ∀ w : World, es.toList = xs.map fun x => (⟨x.1.hash w, .ref x.2.1, x.2.2⟩ : DictEntry)
theorem NX.all {H : Hp} : ∀ {xs : List NE} {kvs : List (NestedKey × Int)}, NX H xs kvs → ∀ x ∈ xs, x.1.depth ≤ 8 ∧ Nk H (.ref x.2.1) x.1
  | [], [], _, x, hx => by cases hx
  | y :: _, kv :: _, ⟨⟨e, d, n, _⟩, r⟩, x, hx => by
    rcases List.mem_cons.mp hx with rfl | hx
    · rw [e]; exact ⟨d, n⟩
    · exact NX.all r x hx
  | [], _ :: _, h, _, _ => h.elim
  | _ :: _, [], h, _, _ => h.elim
/-! look-up -/
def lookN : List (NestedKey × Int) → NestedKey → Option Int
  | [], _ => none
  | (j, v) :: r, k => if j = k then some v else lookN r k
def putN (kvs : List (NestedKey × Int)) (k : NestedKey) (v : Int) : List (NestedKey × Int) := if (lookN kvs k).isSome = true then kvs.map (fun kv => if kv.1 = k then (kv.1, v) else kv) else kvs ++ [(k, v)]
theorem NX.look {H : Hp} (k : NestedKey) : ∀ {xs : List NE} {kvs : List (NestedKey × Int)}, NX H xs kvs → (lookN kvs k = none ∧ atKey xs k = none) ∨ ∃ v b t, lookN kvs k = some v ∧ atKey xs k = some (b, Value.int v t)
  | [], [], _ => .inl ⟨rfl, rfl⟩
  | (j, b, u) :: xs, (j', v') :: kvs, ⟨⟨e1, _, _, t, e4⟩, r⟩ => by
    cases (show j = j' from e1)
    cases (show u = Value.int v' t from e4)
    by_cases e : j = k
    · exact .inr ⟨v', b, t, if_pos e, by unfold atKey; rw [List.find?_cons_of_pos (by simpa using e)]; rfl⟩
    · have e2 : atKey ((j, b, Value.int v' t) :: xs) k = atKey xs k := by unfold atKey; rw [List.find?_cons_of_neg (by simpa using e)]
      have e3 : lookN ((j, v') :: kvs) k = lookN kvs k := if_neg e
      rw [e2, e3]
      exact NX.look k r
  | [], _ :: _, h => h.elim
  | _ :: _, [], h => h.elim
theorem NX.map {H : Hp} {k : NestedKey} {v : Int} {t : Tok} : ∀ {xs : List NE} {kvs : List (NestedKey × Int)}, NX H xs kvs → NX H (xs.map (putAt k (Value.int v t))) (kvs.map fun kv => if kv.1 = k then (kv.1, v) else kv)
  | [], [], _ => trivial
  | (j, b, u) :: xs, (j', v') :: kvs, ⟨⟨e1, e2, e3, e4⟩, r⟩ => by
    cases (show j = j' from e1)
    refine ⟨?_, NX.map r⟩
    show (putAt k (Value.int v t) (j, b, u)).1 = (if j = k then (j, v) else (j, v')).1 ∧ _
    by_cases e : j = k
    · rw [show putAt k (Value.int v t) (j, b, u) = (j, b, Value.int v t) from if_pos e]
      simp only [if_pos e]
      exact ⟨trivial, e2, e3, t, rfl⟩
    · rw [show putAt k (Value.int v t) (j, b, u) = (j, b, u) from if_neg e]
      simp only [if_neg e]
      exact ⟨trivial, e2, e3, e4⟩
  | [], _ :: _, h => h.elim
  | _ :: _, [], h => h.elim
theorem NX.put {H : Hp} {xs : List NE} {kvs : List (NestedKey × Int)} {k : NestedKey} {b : Addr} {v : Int} {t : Tok} (r : NX H xs kvs) (d : k.depth ≤ 8) (n : Nk H (.ref b) k) : NX H (storedH xs k b (Value.int v t)) (putN kvs k v) := by
  unfold storedH putN
  rcases r.look k with ⟨e1, e2⟩ | ⟨v', b', t', e1, e2⟩
  · rw [e1, e2]
    exact r.app ⟨⟨rfl, d, n, t, rfl⟩, trivial⟩
  · rw [e1, e2]
    exact r.map
end L2
set_option Elab.async false
set_option linter.all false
set_option maxRecDepth 100000
set_option maxHeartbeats 2000000
namespace L2
open PySem PySem.Spec PyProof.Rows
/-! dicts whose keys are nested tuples, their values anything -/
def DX (H : Hp) : List NE → List (NestedKey × V) → Prop
  | [], [] => True
  | x :: xs, kv :: kvs => (x.1 = kv.1 ∧ kv.1.depth ≤ 8 ∧ Nk H (.ref x.2.1) kv.1 ∧ RelV kv.2 x.2.2) ∧ DX H xs kvs
  | _, _ => False
theorem DX.keep {H H' : Hp} (s : ∀ b xs, Ov.TP H b xs → Ov.TP H' b xs) : ∀ {xs : List NE} {kvs : List (NestedKey × V)}, DX H xs kvs → DX H' xs kvs
  | [], [], _ => trivial
  | _ :: _, kv :: _, ⟨⟨e, d, n, t⟩, r⟩ => ⟨⟨e, d, Nk.keep s kv.1 n, t⟩, DX.keep s r⟩
  | [], _ :: _, h => h.elim
  | _ :: _, [], h => h.elim
theorem DX.keys {H : Hp} : ∀ {xs : List NE} {kvs : List (NestedKey × V)}, DX H xs kvs → xs.map (·.1) = kvs.map (·.1)
  | [], [], _ => rfl
  | _ :: _, kv :: _, ⟨⟨e, _⟩, r⟩ => by rw [List.map_cons, List.map_cons, e, DX.keys r]
  | [], _ :: _, h => h.elim
  | _ :: _, [], h => h.elim
theorem DX.len {H : Hp} {xs : List NE} {kvs : List (NestedKey × V)} (h : DX H xs kvs) : xs.length = kvs.length := by
  have := congrArg List.length h.keys
  rwa [List.length_map, List.length_map] at this
theorem DX.app {H : Hp} : ∀ {xs ys : List NE} {kvs jvs : List (NestedKey × V)}, DX H xs kvs → DX H ys jvs → DX H (xs ++ ys) (kvs ++ jvs)
  | [], _, [], _, _, h => h
  | _ :: _, _, _ :: _, _, ⟨a, r⟩, h => ⟨a, DX.app r h⟩
  | [], _, _ :: _, _, h, _ => h.elim
  | _ :: _, _, [], _, h, _ => h.elim
theorem DX.get {H : Hp} : ∀ {xs : List NE} {kvs : List (NestedKey × V)} {i : Nat} {kv : NestedKey × V}, DX H xs kvs → kvs[i]? = some kv → ∃ b u, xs[i]? = some (kv.1, b, u) ∧ Nk H (.ref b) kv.1 ∧ RelV kv.2 u
  | (k, b, v) :: _, (k', v') :: _, 0, kv, ⟨⟨e1, e2, e3, e4⟩, _⟩, h => by
    cases h
    cases (show k = k' from e1)
    exact ⟨b, v, rfl, e3, e4⟩
  | _ :: _, _ :: _, i + 1, kv, ⟨_, r⟩, h => DX.get (i := i) r (by simpa using h)
  | [], [], _, _, _, h => by simp at h
  | [], _ :: _, _, _, h, _ => h.elim
  | _ :: _, [], _, _, h, _ => h.elim
theorem DX.all {H : Hp} : ∀ {xs : List NE} {kvs : List (NestedKey × V)}, DX H xs kvs → ∀ x ∈ xs, x.1.depth ≤ 8 ∧ Nk H (.ref x.2.1) x.1
  | [], [], _, x, hx => by cases hx
  | y :: _, kv :: _, ⟨⟨e, d, n, _⟩, r⟩, x, hx => by
    rcases List.mem_cons.mp hx with rfl | hx
    · rw [e]; exact ⟨d, n⟩
    · exact DX.all r x hx
  | [], _ :: _, h, _, _ => h.elim
  | _ :: _, [], h, _, _ => h.elim
/-! look-up -/
section
variable {α : Type}
def lookG : List (NestedKey × α) → NestedKey → Option α
  | [], _ => none
  | (j, v) :: r, k => if j = k then some v else lookG r k
def putG (kvs : List (NestedKey × α)) (k : NestedKey) (v : α) : List (NestedKey × α) := if (lookG kvs k).isSome = true then kvs.map (fun kv => if kv.1 = k then (kv.1, v) else kv) else kvs ++ [(k, v)]
/-- without k -/
def outG (kvs : List (NestedKey × α)) (k : NestedKey) : List (NestedKey × α) := kvs.filter fun kv => decide (kv.1 ≠ k)
end
theorem DX.look {H : Hp} (k : NestedKey) : ∀ {xs : List NE} {kvs : List (NestedKey × V)}, DX H xs kvs → (lookG kvs k = none ∧ atKey xs k = none) ∨ ∃ v b u, lookG kvs k = some v ∧ atKey xs k = some (b, u) ∧ RelV v u
  | [], [], _ => .inl ⟨rfl, rfl⟩
  | (j, b, u) :: xs, (j', v') :: kvs, ⟨⟨e1, _, _, e4⟩, r⟩ => by
    cases (show j = j' from e1)
    by_cases e : j = k
    · exact .inr ⟨v', b, u, if_pos e, by unfold atKey; rw [List.find?_cons_of_pos (by simpa using e)]; rfl, e4⟩
    · have e2 : atKey ((j, b, u) :: xs) k = atKey xs k := by unfold atKey; rw [List.find?_cons_of_neg (by simpa using e)]
      have e3 : lookG ((j, v') :: kvs) k = lookG kvs k := if_neg e
      rw [e2, e3]
      exact DX.look k r
  | [], _ :: _, h => h.elim
  | _ :: _, [], h => h.elim
theorem DX.map {H : Hp} {k : NestedKey} {v : V} {u : Value} (z : RelV v u) : ∀ {xs : List NE} {kvs : List (NestedKey × V)}, DX H xs kvs → DX H (xs.map (putAt k u)) (kvs.map fun kv => if kv.1 = k then (kv.1, v) else kv)
  | [], [], _ => trivial
  | (j, b, u') :: xs, (j', v') :: kvs, ⟨⟨e1, e2, e3, e4⟩, r⟩ => by
    cases (show j = j' from e1)
    refine ⟨?_, DX.map z r⟩
    show (putAt k u (j, b, u')).1 = (if j = k then (j, v) else (j, v')).1 ∧ _
    by_cases e : j = k
    · rw [show putAt k u (j, b, u') = (j, b, u) from if_pos e]
      simp only [if_pos e]
      exact ⟨trivial, e2, e3, z⟩
    · rw [show putAt k u (j, b, u') = (j, b, u') from if_neg e]
      simp only [if_neg e]
      exact ⟨trivial, e2, e3, e4⟩
  | [], _ :: _, h => h.elim
  | _ :: _, [], h => h.elim
theorem DX.put {H : Hp} {xs : List NE} {kvs : List (NestedKey × V)} {k : NestedKey} {b : Addr} {v : V} {u : Value} (z : RelV v u) (r : DX H xs kvs) (d : k.depth ≤ 8) (n : Nk H (.ref b) k) : DX H (storedH xs k b u) (putG kvs k v) := by
  unfold storedH putG
  rcases r.look k with ⟨e1, e2⟩ | ⟨v', b', t', e1, e2, _⟩
  · rw [e1, e2]
    exact r.app ⟨⟨rfl, d, n, z⟩, trivial⟩
  · rw [e1, e2]
    exact r.map z
theorem DX.out {H : Hp} {k : NestedKey} : ∀ {xs : List NE} {kvs : List (NestedKey × V)}, DX H xs kvs → DX H (withoutH xs k) (outG kvs k)
  | [], [], _ => trivial
  | (j, b, u) :: xs, (j', v') :: kvs, ⟨⟨e1, e2, e3, e4⟩, r⟩ => by
    cases (show j = j' from e1)
    have ih := DX.out (k := k) r
    unfold withoutH outG at ih ⊢
    by_cases e : j = k
    · rw [List.filter_cons_of_neg (by simp [e]), List.filter_cons_of_neg (by simp [e])]
      exact ih
    · rw [List.filter_cons_of_pos (by simp [e]), List.filter_cons_of_pos (by simp [e])]
      exact ⟨⟨rfl, e2, e3, e4⟩, ih⟩
  | [], _ :: _, h => h.elim
  | _ :: _, [], h => h.elim
end L2
set_option Elab.async false
set_option linter.all false
set_option maxRecDepth 100000
set_option maxHeartbeats 4000000
namespace Ov
open PySem L2
/-! Programs over plain data: what a slot holds is data, or a list that this slot alone owns.
 A reading of the hand layer is held against a plain function over the slots' data. -/
/-! data: as Dp, but no list of the written part -/
/-- a dict of numbers, its values numbers too -/
def kvI (kvs : List (Int × Int)) : List (L2.Key × V) := kvs.map fun kv => (Sum.inl kv.1, V.int kv.2)
/-- a dict of tuples of numbers, its values numbers -/
def kvK (kvs : List (List Int × Int)) : List (List L2.Key × V) := kvs.map fun kv => (kv.1.map Sum.inl, V.int kv.2)
def kvS (ks : List (List Int)) : List (List L2.Key × V) := ks.map fun k => (k.map Sum.inl, V.bl true)
def dkD (kvs : List (List Int × Int)) : PyData := .dict (kvs.map fun kv => (.tuple (kv.1.map .int), .int kv.2))
def dcD (kvs : List (Int × Int)) : PyData := .dict (kvs.map fun kv => (.int kv.1, .int kv.2))
/-- a number, or a tuple of numbers -/
def Fv (K : PySem.W.Frag) (H : Hp) (v : V) (d : PyData) : Prop := (∃ i : Int, v = .int i ∧ d = .int i) ∨ ∃ (p : Addr) (ns : List Int), v = .ref p ∧ TP H p (ns.map V.int) ∧ d = .tuple (ns.map .int)
theorem Fv.same {K : PySem.W.Frag} {H H' : Hp} (s : Same H H') {v : V} {d : PyData} (h : Fv K H v d) : Fv K H' v d := h.imp id fun ⟨p, ns, e1, e2, e3⟩ => ⟨p, ns, e1, e2.same s, e3⟩
def kvV (kvs : List (Int × V × PyData)) : List (L2.Key × V) := kvs.map fun x => (Sum.inl x.1, x.2.1)
mutual
inductive Da (K : PySem.W.Frag) (H : Hp) : V → PyData → Prop
  | non : Da K H .non .none
  | bl (b : Bool) : Da K H (.bl b) (.bool b)
  | int (i : Int) : Da K H (.int i) (.int i)
  | str (x : Str) : Da K H (.str x) (.str x)
  | lst {a : Addr} {xs : List V} {ds : List PyData} : SqL K H a xs → DaAll K H xs ds → Da K H (.ref a) (.list ds)
  | tup {a : Addr} {xs : List V} {ds : List PyData} : TP H a xs → DaAll K H xs ds → Da K H (.ref a) (.tuple ds)
  | dct {a : Addr} {d : List (PyData × PyData)} (kvs : List (Int × V × PyData)) : d = kvs.map (fun x => (.int x.1, x.2.2)) → H a = some (.dK (kvV kvs)) → (∀ x ∈ kvs, Fv K H x.2.1 x.2.2) → Da K H (.ref a) (.dict d)
  | dtk {a : Addr} {d : List (PyData × PyData)} (kvs : List (List Int × Int)) : kvs ≠ [] → d = kvs.map (fun kv => (.tuple (kv.1.map .int), .int kv.2)) → H a = some (.dT (kvK kvs)) → Da K H (.ref a) (.dict d)
inductive DaAll (K : PySem.W.Frag) (H : Hp) : List V → List PyData → Prop
  | nil : DaAll K H [] []
  | cons {v : V} {vs : List V} {d : PyData} {ds : List PyData} : Da K H v d → DaAll K H vs ds → DaAll K H (v :: vs) (d :: ds)
end
section
variable {K : PySem.W.Frag} {H H' : Hp}
theorem Da.dctI {a : Addr} {d : List (PyData × PyData)} (kvs : List (Int × Int)) (e : d = kvs.map (fun kv => (.int kv.1, .int kv.2))) (h : H a = some (.dK (kvI kvs))) : Da K H (.ref a) (.dict d) :=
  .dct (kvs.map fun kv => (kv.1, V.int kv.2, PyData.int kv.2)) (by rw [e, List.map_map]; rfl) (by rw [h]; unfold kvV kvI; rw [List.map_map]; rfl) fun x hx => by
    obtain ⟨kv, _, rfl⟩ := List.mem_map.mp hx
    exact .inl ⟨_, rfl, rfl⟩
theorem rd_same {a : Addr} {xs : List V} (s : Same H H') (h : SqL K H a xs) : SqL K H' a xs := h.imp (fun h => h.imp (fun z => s _ _ z) fun ⟨u, z⟩ => ⟨u, s _ _ z⟩) id
theorem rd_sq {a : Addr} {xs : List V} (h : SqL K H a xs) : SqL K H a xs := h
mutual
theorem Da.same (s : Same H H') : ∀ {v : V} (d : PyData), Da K H v d → Da K H' v d
  | _, .none, h => by cases h; exact .non
  | _, .bool b, h => by cases h; exact .bl b
  | _, .int i, h => by cases h; exact .int i
  | _, .str x, h => by cases h; exact .str x
  | _, .list ds, h => by cases h with | lst q t => exact .lst (rd_same s q) (DaAll.same s ds t)
  | _, .tuple ds, h => by cases h with | tup q t => exact .tup (q.same s) (DaAll.same s ds t)
  | _, .dict _, h => by cases h with
    | dct kvs e q f => exact .dct kvs e (s _ _ q) fun x hx => (f x hx).same s
    | dtk kvs n e q => exact .dtk kvs n e (s _ _ q)
theorem DaAll.same (s : Same H H') : ∀ {xs : List V} (ds : List PyData), DaAll K H xs ds → DaAll K H' xs ds
  | _, [], h => by cases h; exact .nil
  | _, d :: ds, h => by cases h with | cons q t => exact .cons (Da.same s d q) (DaAll.same s ds t)
end
mutual
theorem Da.dp : ∀ {v : V} (d : PyData), d.hasDict = false → Da K H v d → Dp K H v d
  | _, .none, _, h => by cases h; exact .non
  | _, .bool b, _, h => by cases h; exact .bl b
  | _, .int i, _, h => by cases h; exact .int i
  | _, .str x, _, h => by cases h; exact .str x
  | _, .list ds, n, h => by cases h with | lst q t => exact .lst (rd_sq q) (DaAll.dp ds n t)
  | _, .tuple ds, n, h => by cases h with | tup q t => exact .tup q.sq (DaAll.dp ds n t)
  | _, .dict _, n, h => by cases n
theorem DaAll.dp : ∀ {xs : List V} (ds : List PyData), PyData.hasDictAll ds = false → DaAll K H xs ds → DpAll K H xs ds
  | _, [], _, h => by cases h; exact .nil
  | _, d :: ds, n, h => by cases h with | cons q t => exact .cons (Da.dp d (Bool.or_eq_false_iff.mp n).1 q) (DaAll.dp ds (Bool.or_eq_false_iff.mp n).2 t)
end
theorem da_ty {v : V} {d : PyData} (h : Da K H v d) : TyX K H v (Value.type (tyD d)) := by
  cases h with
  | non => exact dp_ty .non
  | bl b => exact dp_ty (.bl b)
  | int i => exact dp_ty (.int i)
  | str x => exact dp_ty (.str x)
  | lst q t => exact tyL q
  | tup q t => exact tyT q.sq
  | dct kvs e q _ => exact .base (.dK q)
  | dtk kvs n e q => exact .base (.dT q)
mutual
theorem lay_nd : ∀ (d : PyData), d.canLay0 = true → d.hasDict = false
  | .none, _ => rfl
  | .bool _, _ => rfl
  | .int _, _ => rfl
  | .str _, _ => rfl
  | .list ds, h => lay_ndAll ds h
  | .tuple ds, h => lay_ndAll ds h
  | .dict _, h => by cases h
theorem lay_ndAll : ∀ (ds : List PyData), PyData.canLayAll0 ds = true → PyData.hasDictAll ds = false
  | [], _ => rfl
  | d :: ds, h => by
    have h' : (PyData.canLay0 d && PyData.canLayAll0 ds) = true := h
    rw [Bool.and_eq_true] at h'
    exact Bool.or_eq_false_iff.mpr ⟨lay_nd d h'.1, lay_ndAll ds h'.2⟩
end
theorem shp_nd {d : PyData} (h : SeqAt.shaped d = true) : d.hasDict = false := by
  have h' : (d.canLay0 && decide (d.depth ≤ 64)) = true := h
  rw [Bool.and_eq_true] at h'
  exact lay_nd d h'.1
theorem daAll_len : ∀ {xs : List V} {ds : List PyData}, DaAll K H xs ds → xs.length = ds.length
  | _, _, .nil => rfl
  | _, _, .cons _ t => congrArg (· + 1) (daAll_len t)
theorem daAll_get : ∀ {xs : List V} {ds : List PyData}, DaAll K H xs ds → ∀ {i : Nat} {d : PyData}, ds[i]? = some d → ∃ x, xs[i]? = some x ∧ Da K H x d
  | _, _, .nil, i, d, h => by simp at h
  | _, _, .cons h t, 0, d, e => by cases e; exact ⟨_, rfl, h⟩
  | _, _, .cons h t, i + 1, d, e => daAll_get t (i := i) e
theorem daAll_append : ∀ {xs ys : List V} {ds es : List PyData}, DaAll K H xs ds → DaAll K H ys es → DaAll K H (xs ++ ys) (ds ++ es)
  | _, _, _, _, .nil, t => t
  | _, _, _, _, .cons h r, t => .cons h (daAll_append r t)
theorem daAll_drop : ∀ {xs : List V} {ds : List PyData}, DaAll K H xs ds → ∀ i : Nat, DaAll K H (xs.drop i) (ds.drop i)
  | _, _, t, 0 => t
  | _, _, .nil, i + 1 => .nil
  | _, _, .cons _ r, i + 1 => daAll_drop r i
theorem daAll_take : ∀ {xs : List V} {ds : List PyData}, DaAll K H xs ds → ∀ i : Nat, DaAll K H (xs.take i) (ds.take i)
  | _, _, _, 0 => by rw [List.take_zero, List.take_zero]; exact .nil
  | _, _, .nil, i + 1 => .nil
  | _, _, .cons h r, i + 1 => .cons h (daAll_take r i)
theorem daAll_erase : ∀ {xs : List V} {ds : List PyData}, DaAll K H xs ds → ∀ i : Nat, DaAll K H (xs.eraseIdx i) (ds.eraseIdx i)
  | _, _, .nil, i => .nil
  | _, _, .cons _ r, 0 => r
  | _, _, .cons h r, i + 1 => .cons h (daAll_erase r i)
theorem daAll_set {v : V} {d : PyData} (z : Da K H v d) : ∀ {xs : List V} {ds : List PyData}, DaAll K H xs ds → ∀ i : Nat, DaAll K H (xs.set i v) (ds.set i d)
  | _, _, .nil, i => .nil
  | _, _, .cons _ r, 0 => .cons z r
  | _, _, .cons h r, i + 1 => .cons h (daAll_set z r i)
theorem daAll_reverse : ∀ {xs : List V} {ds : List PyData}, DaAll K H xs ds → DaAll K H xs.reverse ds.reverse
  | _, _, .nil => .nil
  | _, _, .cons h r => by rw [List.reverse_cons, List.reverse_cons]; exact daAll_append (daAll_reverse r) (.cons h .nil)
end
/-- no tuple, and not locked -/
def NT : HO → Prop
  | .tup _ => False
  | .frz _ _ => False
  | _ => True
theorem off_P {S : Addr → Prop} {a : Addr} {H : Hp} {xs : List V} (hS : ∀ b, S b → ∃ o, H b = some o ∧ NT o) (h : TP H a xs) : TP (off S H) a xs := by
  obtain ⟨o, h, d⟩ := h
  refine ⟨o, (off_ne fun z => ?_).trans h, d⟩
  obtain ⟨ys, e, n⟩ := hS a z
  rw [h] at e
  cases e
  exact n
theorem TP.offn {S : Addr → Prop} {a : Addr} {H : Hp} {xs : List V} (n : ¬ S a) (h : TP H a xs) : TP (off S H) a xs := let ⟨o, e, d⟩ := h; ⟨o, (off_ne n).trans e, d⟩
theorem TP.off {S : Addr → Prop} {a : Addr} {H : Hp} {xs : List V} (h : TP (off S H) a xs) : TP H a xs := let ⟨o, e, d⟩ := h; ⟨o, off_sub S H _ _ e, d⟩
inductive It1 where
  | dat (d : PyData)
  | own (ds : List PyData)
inductive Wv where
  | dat (d : PyData)
  | own (xs : List It1)
  | exc (C : Addr) (f : Str) (d : PyData)
  /-- a dict of numbers, each True -/
  | dct (ks : List Int)
  /-- a dict of numbers, its values numbers too -/
  | dci (kvs : List (Int × Int))
  /-- a dict of tuples of numbers, its values numbers -/
  | dtk (kvs : List (List Int × Int))
  /-- a dict of tuples of numbers, its values True -/
  | dts (ks : List (List Int))
  /-- data that stands at a known value -/
  | pin (u : V) (d : PyData)
  /-- a dict of nested keys, its values numbers: one's own -/
  | dtn (kvs : List (NestedKey × Int))
  /-- the same, read only -/
  | nd (kvs : List (NestedKey × Int))
  /-- a dict of nested keys, its values any data: one's own -/
  | dtd (kvs : List (NestedKey × PyData))
  /-- the same, read only -/
  | ndd (kvs : List (NestedKey × PyData))
  /-- a dict of numbers, its values numbers, that nobody writes any more -/
  | lkd (kvs : List (Int × Int))
  /-- an object of the class at C whose fields states and entries are lists of its own, of data -/
  | lin (C : Addr) (ss es : List PyData)
abbrev En := List (Option Wv)
def un (B : Addr → Prop) (l : List Addr) : Addr → Prop := fun b => B b ∨ b ∈ l
/-- all but what stands at l is kept -/
def Fr (l : List Addr) (H H' : Hp) : Prop := ∀ b o, b ∉ l → H b = some o → H' b = some o
def kvT (ks : List Int) : List (L2.Key × V) := ks.map fun k => (Sum.inl k, V.bl true)
/-- the dict of nested keys at p -/
def NdR (G : Hp) (p : Addr) (kvs : List (NestedKey × Int)) : Prop := ∃ o xs, G p = some (objO p o) ∧ NOb p o xs ∧ NX G xs kvs ∧ (kvs.map (·.1)).Nodup
theorem NdR.same {G G' : Hp} (s : Same G G') {p : Addr} {kvs : List (NestedKey × Int)} (h : NdR G p kvs) : NdR G' p kvs := by
  obtain ⟨o, xs, h1, h2, h3, h4⟩ := h
  exact ⟨o, xs, s _ _ h1, h2, h3.keep fun b xs e => e.same s, h4⟩
/-- values that are data -/
def DVs (K : PySem.W.Frag) (G : Hp) : List (NestedKey × V) → List (NestedKey × PyData) → Prop
  | [], [] => True
  | a :: as, b :: bs => (a.1 = b.1 ∧ Da K G a.2 b.2) ∧ DVs K G as bs
  | _, _ => False
theorem DVs.same {K : PySem.W.Frag} {G G' : Hp} (s : Same G G') : ∀ {us : List (NestedKey × V)} {kvs : List (NestedKey × PyData)}, DVs K G us kvs → DVs K G' us kvs
  | [], [], _ => trivial
  | _ :: _, b :: _, ⟨⟨e, d⟩, r⟩ => ⟨⟨e, Da.same s b.2 d⟩, DVs.same s r⟩
  | [], _ :: _, h => h.elim
  | _ :: _, [], h => h.elim
def NdD (K : PySem.W.Frag) (G : Hp) (p : Addr) (kvs : List (NestedKey × PyData)) : Prop := ∃ o xs us, G p = some (objO p o) ∧ NOb p o xs ∧ DX G xs us ∧ DVs K G us kvs ∧ (us.map (·.1)).Nodup
theorem NdD.same {K : PySem.W.Frag} {G G' : Hp} (s : Same G G') {p : Addr} {kvs : List (NestedKey × PyData)} (h : NdD K G p kvs) : NdD K G' p kvs := by
  obtain ⟨o, xs, us, h1, h2, h3, h4, h5⟩ := h
  exact ⟨o, xs, us, s _ _ h1, h2, h3.keep fun b xs e => e.same s, h4.same s, h5⟩
def linF (a b : Addr) : List (Str × V) := [("states", V.ref a), ("entries", V.ref b)]
/-- what is known of the class -/
structure LinC (K : PySem.W.Frag) (C : Addr) : Prop where
  cls : Cls K C
  ns : NoAttr K C "states"
  ne : NoAttr K C "entries"
section
variable {K : PySem.W.Frag}
def Rp1 (K : PySem.W.Frag) (H G : Hp) (v : V) (x : It1) (l : List Addr) : Prop :=
  match x with
  | .dat d => l = [] ∧ Da K G v d
  | .own ds => ∃ q us, v = .ref q ∧ l = [q] ∧ H q = some (.lst us) ∧ DaAll K G us ds
def Rp1s (K : PySem.W.Frag) (H G : Hp) : List V → List It1 → List Addr → Prop
  | [], [], l => l = []
  | v :: vs, x :: xs, l => ∃ a b, l = a ++ b ∧ Rp1 K H G v x a ∧ Rp1s K H G vs xs b
  | _, _, _ => False
def RpW (K : PySem.W.Frag) (H G : Hp) (v : V) (w : Wv) (l : List Addr) : Prop :=
  match w with
  | .dat d => l = [] ∧ Da K G v d
  | .own xs => ∃ p vs b, v = .ref p ∧ l = p :: b ∧ H p = some (.lst vs) ∧ Rp1s K H G vs xs b
  | .exc C f d => l = [] ∧ ∃ a u, v = .ref a ∧ CauF K G a C f u ∧ (f ≠ "" → Da K G u d)
  | .dct ks => ∃ p, v = .ref p ∧ l = [p] ∧ H p = some (.dK (kvT ks))
  | .dci kvs => ∃ p, v = .ref p ∧ l = [p] ∧ H p = some (.dK (kvI kvs))
  | .dtk kvs => ∃ p, v = .ref p ∧ l = [p] ∧ H p = some (.dT (kvK kvs))
  | .dts ks => ∃ p, v = .ref p ∧ l = [p] ∧ H p = some (.dT (kvS ks))
  | .pin u d => l = [] ∧ v = u ∧ Da K G v d
  | .dtn kvs => ∃ p o xs, v = .ref p ∧ l = [p] ∧ H p = some (objO p o) ∧ NOb p o xs ∧ NX G xs kvs ∧ (kvs.map (·.1)).Nodup
  | .nd kvs => l = [] ∧ ∃ p, v = .ref p ∧ NdR G p kvs
  | .dtd kvs => ∃ p o xs us, v = .ref p ∧ l = [p] ∧ H p = some (objO p o) ∧ NOb p o xs ∧ DX G xs us ∧ DVs K G us kvs ∧ (us.map (·.1)).Nodup
  | .ndd kvs => l = [] ∧ ∃ p, v = .ref p ∧ NdD K G p kvs
  | .lkd kvs => l = [] ∧ ∃ p od, v = .ref p ∧ G p = some (.frz od (.dK (kvI kvs)))
  | .lin C ss es => LinC K C ∧ ∃ p dx a b vs ws, v = .ref p ∧ l = [a, b] ∧ G p = some (.ins C dx (linF a b)) ∧ H a = some (.lst vs) ∧ DaAll K G vs ss ∧ H b = some (.lst ws) ∧ DaAll K G ws es
def RpS (K : PySem.W.Frag) (H G : Hp) (s : Option V) (e : Option Wv) (l : List Addr) : Prop :=
  match e with
  | none => l = []
  | some w => ∃ v, s = some v ∧ RpW K H G v w l
def RpE (K : PySem.W.Frag) (H G : Hp) : St → En → List Addr → Prop
  | [], [], l => l = []
  | s :: σ, e :: env, l => ∃ a b, l = a ++ b ∧ RpS K H G s e a ∧ RpE K H G σ env b
  | _, _, _ => False
variable {H H' G G' : Hp}
theorem Rp1.mv (s : Same G G') {v : V} {x : It1} {l : List Addr} (k : ∀ q ∈ l, H' q = H q) (h : Rp1 K H G v x l) : Rp1 K H' G' v x l := by
  cases x with
  | dat d => exact ⟨h.1, Da.same s d h.2⟩
  | own ds =>
    obtain ⟨q, us, e1, e2, e3, e4⟩ := h
    exact ⟨q, us, e1, e2, (k q (by rw [e2]; exact List.mem_cons_self ..)).trans e3, DaAll.same s ds e4⟩
theorem Rp1s.mv (s : Same G G') : ∀ {vs : List V} {xs : List It1} {l : List Addr}, (∀ q ∈ l, H' q = H q) → Rp1s K H G vs xs l → Rp1s K H' G' vs xs l
  | [], [], l, _, h => h
  | v :: vs, x :: xs, l, k, ⟨a, b, e, h1, h2⟩ => ⟨a, b, e, h1.mv s fun q z => k q (by rw [e]; exact List.mem_append_left _ z), Rp1s.mv s (fun q z => k q (by rw [e]; exact List.mem_append_right _ z)) h2⟩
theorem RpW.mv (s : Same G G') {v : V} {w : Wv} {l : List Addr} (k : ∀ q ∈ l, H' q = H q) (h : RpW K H G v w l) : RpW K H' G' v w l := by
  cases w with
  | dat d => exact ⟨h.1, Da.same s d h.2⟩
  | own xs =>
    obtain ⟨p, vs, b, e1, e2, e3, e4⟩ := h
    exact ⟨p, vs, b, e1, e2, (k p (by rw [e2]; exact List.mem_cons_self ..)).trans e3, Rp1s.mv s (fun q z => k q (by rw [e2]; exact List.mem_cons_of_mem _ z)) e4⟩
  | exc C f d =>
    obtain ⟨e, a, u, e1, e2, e3⟩ := h
    exact ⟨e, a, u, e1, e2.same s, fun z => Da.same s d (e3 z)⟩
  | dct ks =>
    obtain ⟨p, e1, e2, e3⟩ := h
    exact ⟨p, e1, e2, (k p (by rw [e2]; exact List.mem_cons_self ..)).trans e3⟩
  | dci ks =>
    obtain ⟨p, e1, e2, e3⟩ := h
    exact ⟨p, e1, e2, (k p (by rw [e2]; exact List.mem_cons_self ..)).trans e3⟩
  | dtk ks =>
    obtain ⟨p, e1, e2, e3⟩ := h
    exact ⟨p, e1, e2, (k p (by rw [e2]; exact List.mem_cons_self ..)).trans e3⟩
  | pin u d => exact ⟨h.1, h.2.1, Da.same s d h.2.2⟩
  | nd kvs => obtain ⟨e1, p, e2, e3⟩ := h; exact ⟨e1, p, e2, e3.same s⟩
  | ndd kvs => obtain ⟨e1, p, e2, e3⟩ := h; exact ⟨e1, p, e2, e3.same s⟩
  | dtd kvs =>
    obtain ⟨p, o, xs, us, e1, e2, e3, e4, e5, e6, e7⟩ := h
    exact ⟨p, o, xs, us, e1, e2, (k p (by rw [e2]; exact List.mem_cons_self ..)).trans e3, e4, e5.keep fun b xs e => e.same s, e6.same s, e7⟩
  | lkd kvs => obtain ⟨e1, p, od, e2, e3⟩ := h; exact ⟨e1, p, od, e2, s _ _ e3⟩
  | lin C ss es =>
    obtain ⟨hc, p, dx, a, b, vs, ws, e1, e2, e3, e5, e6, e7, e8⟩ := h
    exact ⟨hc, p, dx, a, b, vs, ws, e1, e2, s _ _ e3, (k a (by rw [e2]; simp)).trans e5, DaAll.same s ss e6, (k b (by rw [e2]; simp)).trans e7, DaAll.same s es e8⟩
  | dtn kvs =>
    obtain ⟨p, o, xs, e1, e2, e3, e4, e5, e6⟩ := h
    exact ⟨p, o, xs, e1, e2, (k p (by rw [e2]; exact List.mem_cons_self ..)).trans e3, e4, e5.keep fun b xs e => e.same s, e6⟩
  | dts ks =>
    obtain ⟨p, e1, e2, e3⟩ := h
    exact ⟨p, e1, e2, (k p (by rw [e2]; exact List.mem_cons_self ..)).trans e3⟩
theorem RpS.mv (s : Same G G') {v : Option V} {e : Option Wv} {l : List Addr} (k : ∀ q ∈ l, H' q = H q) (h : RpS K H G v e l) : RpS K H' G' v e l := by
  cases e with
  | none => exact h
  | some w =>
    obtain ⟨x, e1, e2⟩ := h
    exact ⟨x, e1, e2.mv s k⟩
theorem RpE.mv (s : Same G G') : ∀ {σ : St} {env : En} {l : List Addr}, (∀ q ∈ l, H' q = H q) → RpE K H G σ env l → RpE K H' G' σ env l
  | [], [], l, _, h => h
  | v :: σ, e :: env, l, k, ⟨a, b, z, h1, h2⟩ => ⟨a, b, z, h1.mv s fun q y => k q (by rw [z]; exact List.mem_append_left _ y), RpE.mv s (fun q y => k q (by rw [z]; exact List.mem_append_right _ y)) h2⟩
theorem Rp1.trk {v : V} {x : It1} {l : List Addr} (h : Rp1 K H G v x l) : ∀ q ∈ l, ∃ o, H q = some o ∧ NT o := by
  cases x with
  | dat d => intro q z; rw [h.1] at z; cases z
  | own ds =>
    obtain ⟨p, us, e1, e2, e3, e4⟩ := h
    intro q z
    rw [e2] at z
    cases List.mem_singleton.mp z
    exact ⟨_, e3, trivial⟩
theorem Rp1s.trk : ∀ {vs : List V} {xs : List It1} {l : List Addr}, Rp1s K H G vs xs l → ∀ q ∈ l, ∃ o, H q = some o ∧ NT o
  | [], [], l, h => fun q z => by rw [show l = [] from h] at z; cases z
  | v :: vs, x :: xs, l, ⟨a, b, e, h1, h2⟩ => fun q z => by
    rw [e] at z
    exact (List.mem_append.mp z).elim (h1.trk q) (Rp1s.trk h2 q)
theorem RpW.trk {v : V} {w : Wv} {l : List Addr} (h : RpW K H G v w l) : ∀ q ∈ l, ∃ o, H q = some o ∧ NT o := by
  cases w with
  | dat d => intro q z; rw [h.1] at z; cases z
  | own xs =>
    obtain ⟨p, vs, b, e1, e2, e3, e4⟩ := h
    intro q z
    rw [e2] at z
    rcases List.mem_cons.mp z with z | z
    · cases z; exact ⟨_, e3, trivial⟩
    · exact e4.trk q z
  | exc C f d => intro q z; rw [h.1] at z; cases z
  | dct ks =>
    obtain ⟨p, e1, e2, e3⟩ := h
    intro q z
    rw [e2] at z
    cases List.mem_singleton.mp z
    exact ⟨_, e3, trivial⟩
  | dci ks =>
    obtain ⟨p, e1, e2, e3⟩ := h
    intro q z
    rw [e2] at z
    cases List.mem_singleton.mp z
    exact ⟨_, e3, trivial⟩
  | dtk ks =>
    obtain ⟨p, e1, e2, e3⟩ := h
    intro q z
    rw [e2] at z
    cases List.mem_singleton.mp z
    exact ⟨_, e3, trivial⟩
  | pin u d => intro q z; rw [h.1] at z; cases z
  | nd kvs => intro q z; rw [h.1] at z; cases z
  | ndd kvs => intro q z; rw [h.1] at z; cases z
  | dtd kvs =>
    obtain ⟨p, o, xs, us, e1, e2, e3, _⟩ := h
    intro q z
    rw [e2] at z
    cases List.mem_singleton.mp z
    exact ⟨_, e3, trivial⟩
  | lkd kvs => intro q z; rw [h.1] at z; cases z
  | lin C ss es =>
    obtain ⟨_, p, dx, a, b, vs, ws, e1, e2, e3, e5, e6, e7, e8⟩ := h
    intro q z
    rw [e2] at z
    simp only [List.mem_cons, List.not_mem_nil, or_false] at z
    rcases z with rfl | rfl
    · exact ⟨_, e5, trivial⟩
    · exact ⟨_, e7, trivial⟩
  | dtn kvs =>
    obtain ⟨p, o, xs, e1, e2, e3, _⟩ := h
    intro q z
    rw [e2] at z
    cases List.mem_singleton.mp z
    exact ⟨_, e3, trivial⟩
  | dts ks =>
    obtain ⟨p, e1, e2, e3⟩ := h
    intro q z
    rw [e2] at z
    cases List.mem_singleton.mp z
    exact ⟨_, e3, trivial⟩
theorem RpE.trk : ∀ {σ : St} {env : En} {l : List Addr}, RpE K H G σ env l → ∀ q ∈ l, ∃ o, H q = some o ∧ NT o
  | [], [], l, h => fun q z => by rw [show l = [] from h] at z; cases z
  | s :: σ, e :: env, l, ⟨a, b, z, h1, h2⟩ => fun q y => by
    rw [z] at y
    refine (List.mem_append.mp y).elim (fun y => ?_) (RpE.trk h2 q)
    cases e with
    | none => rw [show a = [] from h1] at y; cases y
    | some w => obtain ⟨v, _, h1⟩ := h1; exact h1.trk q y
/-- one slot, and what may come in its place -/
theorem RpE.focus : ∀ {σ : St} {env : En} {l : List Addr} {i : Nat} {e : Option Wv}, RpE K H G σ env l → env[i]? = some e → ∃ s a lx ly, σ[i]? = some s ∧ l = lx ++ (a ++ ly) ∧ RpS K H G s e a ∧
    ∀ {H' G' : Hp} {s' : Option V} {e' : Option Wv} {a' : List Addr}, Same G G' → (∀ q ∈ lx, H' q = H q) → (∀ q ∈ ly, H' q = H q) → RpS K H' G' s' e' a' → RpE K H' G' (σ.set i s') (env.set i e') (lx ++ (a' ++ ly))
  | [], [], l, i, e, h, q => by simp at q
  | s :: σ, e :: env, l, 0, _, ⟨a, b, z, h1, h2⟩, q => by
    cases q
    refine ⟨s, a, [], b, rfl, z, h1, fun {H' G' s' e' a'} sg kx ky h' => ⟨a', b, rfl, h', h2.mv sg ky⟩⟩
  | s :: σ, e :: env, l, i + 1, e0, ⟨a, b, z, h1, h2⟩, q => by
    obtain ⟨s0, a0, lx, ly, q1, q2, q3, q4⟩ := RpE.focus (i := i) (e := e0) h2 q
    refine ⟨s0, a0, a ++ lx, ly, q1, by rw [z, q2, List.append_assoc], q3, fun {H' G' s' e' a'} sg kx ky h' => ?_⟩
    refine ⟨a, lx ++ (a' ++ ly), by rw [List.append_assoc], h1.mv sg fun q y => kx q (List.mem_append_left _ y), q4 sg (fun q y => kx q (List.mem_append_right _ y)) ky h'⟩
theorem RpE.len : ∀ {σ : St} {env : En} {l : List Addr}, RpE K H G σ env l → σ.length = env.length
  | [], [], _, _ => rfl
  | _ :: _, _ :: _, _, ⟨_, _, _, _, h⟩ => congrArg (· + 1) (RpE.len h)
end
/-- the slots hold what env says, the lists owned standing at l, beside the lists B of others -/
structure Rep (K : PySem.W.Frag) (B : Addr → Prop) (σ : St) (H : Hp) (env : En) (l : List Addr) : Prop where
  rp : RpE K H (off (un B l) H) σ env l
  nd : l.Nodup
  out : ∀ b ∈ l, ¬ B b
  tb : ∀ b, B b → ∃ o, H b = some o ∧ NT o
section
variable {K : PySem.W.Frag} {B B' : Addr → Prop} {σ : St} {H H' H1 H2 : Hp} {env : En} {l l' : List Addr}
theorem off_mono {S S' : Addr → Prop} {H H' : Hp} (hS : ∀ b, S' b → ¬ S b → H b = none) (s : ∀ b o, ¬ S b → H b = some o → H' b = some o) : Same (off S H) (off S' H') := fun b o h => by
  obtain ⟨n, e⟩ := off_at h
  rw [off_ne fun z => by rw [hS b z n] at e; cases e]
  exact s b o n e
theorem Fr.refl (l : List Addr) (H : Hp) : Fr l H H := fun _ _ _ h => h
theorem Fr.of {l : List Addr} (s : Same H H') : Fr l H H' := fun b o _ h => s b o h
theorem Fr.trans (a : Fr l H H1) (b : Fr l H1 H2) : Fr l H H2 := fun c o n h => b c o n (a c o n h)
theorem Fr.keep (f : Fr l H H') : Same (off (un B l) H) (off (un B l) H') := off_mono (fun b z n => absurd z n) fun b o n h => f b o (fun z => n (.inr z)) h
theorem Rep.tl (r : Rep K B σ H env l) : ∀ b, un B l b → ∃ o, H b = some o ∧ NT o := fun b z => z.elim (r.tb b) fun z => r.rp.trk b z
theorem Rep.fresh (r : Rep K B σ H env l) {p : Addr} (h : H p = none) : ¬ un B l p := fun z => by
  obtain ⟨o, e, _⟩ := r.tl p z
  rw [h] at e
  cases e
/-- the heap grows; more lists may stand beside -/
theorem Rep.grow (r : Rep K B σ H env l) (s : Same H H') (h1 : ∀ b, B b → B' b) (h2 : ∀ b, B' b → B b ∨ H b = none) (h3 : ∀ b, B' b → ∃ o, H' b = some o ∧ NT o) : Rep K B' σ H' env l := by
  have t := r.rp.trk
  refine ⟨r.rp.mv ?_ fun q z => ?_, r.nd, fun b z y => (h2 b y).elim (r.out b z) fun e => r.fresh e (.inr z), h3⟩
  · exact off_mono (fun b z n => z.elim (fun z => (h2 b z).elim (fun z => absurd (.inl z) n) id) fun z => absurd (.inr z) n) fun b o n h => s b o h
  · obtain ⟨us, e, _⟩ := t q z
    rw [e, s _ _ e]
theorem Rep.same (r : Rep K B σ H env l) (s : Same H H') : Rep K B σ H' env l := r.grow s (fun _ z => z) (fun _ z => .inl z) fun b z => by
  obtain ⟨o, e, n⟩ := r.tb b z
  exact ⟨o, s _ _ e, n⟩
/-- fewer lists beside -/
theorem Rep.less (r : Rep K B' σ H env l) (h : ∀ b, B b → B' b) : Rep K B σ H env l :=
  ⟨r.rp.mv (off_mono (fun b z n => absurd (z.elim (fun z => .inl (h b z)) .inr) n) fun b o n e => e) fun _ _ => rfl, r.nd, fun b z y => r.out b z (h b y), fun b z => r.tb b (h b z)⟩
theorem Rep.len (r : Rep K B σ H env l) : σ.length = env.length := r.rp.len
end
/-! results -/
inductive R where
  | dat (d : PyData)
  | slot (i : Nat)
  | exc (C : Addr) (f : Str) (d : PyData)
def RpR (K : PySem.W.Frag) (G : Hp) (σ : St) (v : V) (r : R) : Prop :=
  match r with
  | .dat d => Da K G v d
  | .slot i => σ[i]? = some (some v)
  | .exc C f d => ∃ a u, v = .ref a ∧ CauF K G a C f u ∧ (f ≠ "" → Da K G u d)
theorem RpR.mv {K : PySem.W.Frag} {G G' : Hp} {σ : St} {v : V} {r : R} (s : Same G G') (h : RpR K G σ v r) : RpR K G' σ v r := by
  cases r with
  | dat d => exact Da.same s d h
  | slot i => exact h
  | exc C f d =>
    obtain ⟨a, u, e1, e2, e3⟩ := h
    exact ⟨a, u, e1, e2.same s, fun z => Da.same s d (e3 z)⟩
inductive Rs (α : Type) where
  | ok (a : α) (env : En)
  | ex (C : Addr) (f : Str) (d : PyData)
def M (α : Type) := En → Option (Rs α)
def M.bind {α β : Type} (x : M α) (f : α → M β) : M β := fun env =>
  match x env with
  | none => none
  | some (.ok a e) => f a e
  | some (.ex C g d) => some (.ex C g d)
def M.pure {α : Type} (a : α) : M α := fun env => some (.ok a env)
instance : Monad M where
  pure := M.pure
  bind := M.bind
def lift {α : Type} (o : Option α) : M α := fun env => o.map fun a => .ok a env
def itds : List It1 → Option (List PyData)
  | [] => some []
  | .dat d :: r => (itds r).map (d :: ·)
  | .own _ :: _ => none
/-- a list of data as a list owned -/
def dats (ds : List PyData) : List It1 := ds.map .dat
theorem itds_dats (ds : List PyData) : itds (dats ds) = some ds := by
  induction ds with
  | nil => rfl
  | cons d r ih => show (itds (dats r)).map (d :: ·) = _; rw [ih]; rfl
theorem itds_eq : ∀ {xs : List It1} {ds : List PyData}, itds xs = some ds → xs = dats ds
  | [], ds, h => by cases h; rfl
  | .dat d :: r, ds, h => by
    obtain ⟨q, e1, e2⟩ := Option.map_eq_some_iff.mp (show (itds r).map (d :: ·) = some ds from h)
    subst e2
    rw [itds_eq e1]
    rfl
  | .own _ :: _, ds, h => by cases h
/-- the data of a result, as it stands -/
def vw (r : R) : M PyData := fun env =>
  match r with
  | .dat d => some (.ok d env)
  | .slot i =>
    match env[i]? with
    | some (some (.own xs)) => (itds xs).map fun ds => .ok (.list ds) env
    | _ => none
  | .exc _ _ _ => none
/-- data to be read: the outermost list may be one that is owned -/
def Vw (K : PySem.W.Frag) (S : Addr → Prop) (H : Hp) (v : V) (d : PyData) : Prop :=
  Da K (off S H) v d ∨ ∃ p vs ds, v = .ref p ∧ d = .list ds ∧ H p = some (.lst vs) ∧ DaAll K (off S H) vs ds
theorem rp1s_dats {K : PySem.W.Frag} {H G : Hp} : ∀ {vs : List V} {ds : List PyData} {l : List Addr}, Rp1s K H G vs (dats ds) l → l = [] ∧ DaAll K G vs ds
  | [], [], l, h => ⟨h, .nil⟩
  | v :: vs, d :: ds, l, ⟨a, b, e, h1, h2⟩ => by
    obtain ⟨e2, h3⟩ := rp1s_dats h2
    exact ⟨by rw [e, h1.1, e2]; rfl, .cons h1.2 h3⟩
  | [], _ :: _, _, h => h.elim
  | _ :: _, [], _, h => h.elim
theorem rp1s_of {K : PySem.W.Frag} {H G : Hp} : ∀ {vs : List V} {ds : List PyData}, DaAll K G vs ds → Rp1s K H G vs (dats ds) []
  | _, _, .nil => rfl
  | _, _, .cons h t => ⟨[], [], rfl, ⟨rfl, h⟩, rp1s_of t⟩
theorem vw_ok {K : PySem.W.Frag} {B : Addr → Prop} {σ : St} {H : Hp} {env env' : En} {l : List Addr} {v : V} {r : R} {d : PyData} (h : Rep K B σ H env l) (q : RpR K (off (un B l) H) σ v r) (e : vw r env = some (.ok d env')) : env' = env ∧ Vw K (un B l) H v d := by
  cases r with
  | dat d' => cases e; exact ⟨rfl, .inl q⟩
  | exc _ _ _ => cases e
  | slot i =>
    unfold vw at e
    simp only at e
    split at e
    · rename_i xs hx
      obtain ⟨ds, e1, e2⟩ := Option.map_eq_some_iff.mp e
      cases e2
      have hx2 := itds_eq e1
      subst hx2
      obtain ⟨s, a, lx, ly, q1, q2, ⟨v', q3, p, vs, b, q4, q5, q6, q7⟩, _⟩ := h.rp.focus hx
      rw [show σ[i]? = some (some v) from q] at q1
      cases q1
      cases q3
      exact ⟨rfl, .inr ⟨p, vs, ds, q4, rfl, q6, (rp1s_dats q7).2⟩⟩
    · cases e
theorem vw_noex {r : R} {env : En} {C : Addr} {f : Str} {d : PyData} : vw r env ≠ some (.ex C f d) := by
  unfold vw
  intro e
  split at e
  · cases e
  · split at e
    · obtain ⟨_, _, e2⟩ := Option.map_eq_some_iff.mp e
      cases e2
    · cases e
  · cases e
end Ov
set_option Elab.async false
set_option linter.all false
set_option maxRecDepth 100000
set_option maxHeartbeats 4000000
namespace Ov
open PySem L2
/-! readings held against plain functions: expressions -/
def Exn (K : PySem.W.Frag) (E : XK) (B : Addr → Prop) (H : Hp) (l : List Addr) (C : Addr) (f : Str) (d : PyData) : Prop :=
  (f ≠ "" → ∀ dx H' v, Fr l H H' → ¬ B dx → H' dx = some (.xd [(f, v)]) → Da K (off B H') v d → E (.ref C) (some dx) H') ∧ (f = "" → ∀ H', Fr l H H' → E (.ref C) none H')
theorem Exn.later {K : PySem.W.Frag} {E : XK} {B : Addr → Prop} {H H1 : Hp} {l : List Addr} {C : Addr} {f : Str} {d : PyData} (x : Exn K E B H l C f d) (s : Fr l H H1) : Exn K E B H1 l C f d :=
  ⟨fun hf dx H' v fr n h q => x.1 hf dx H' v (s.trans fr) n h q, fun hf H' fr => x.2 hf H' (s.trans fr)⟩
theorem Exn.wide {K : PySem.W.Frag} {E : XK} {B : Addr → Prop} {H : Hp} {l l1 : List Addr} {C : Addr} {f : Str} {d : PyData} (x : Exn K E B H l C f d) : Exn K E (un B l1) H l C f d :=
  ⟨fun hf dx H' v fr n hh q => x.1 hf dx H' v fr (fun z => n (.inl z)) hh (Da.same (off_mono (fun b z n => absurd (.inl z) n) fun b o n e => e) d q), x.2⟩
def PostE (K : PySem.W.Frag) (E : XK) (B : Addr → Prop) (σ : St) (H : Hp) (l : List Addr) (rs : Rs R) (Q : VK) : Prop :=
  match rs with
  | .ok r env' => ∀ v H', Rep K B σ H' env' l → Fr l H H' → RpR K (off (un B l) H') σ v r → Q v H'
  | .ex C f d => Exn K E B H l C f d
def PostT (K : PySem.W.Frag) (E : XK) (B : Addr → Prop) (σ : St) (H : Hp) (l : List Addr) (rs : Rs Bool) (Q : Bool → Hp → Prop) : Prop :=
  match rs with
  | .ok b env' => ∀ H', Rep K B σ H' env' l → Fr l H H' → Q b H'
  | .ex C f d => Exn K E B H l C f d
def RpRs (K : PySem.W.Frag) (G : Hp) (σ : St) : List V → List R → Prop
  | [], [] => True
  | v :: vs, r :: rs => RpR K G σ v r ∧ RpRs K G σ vs rs
  | _, _ => False
theorem RpRs.mv {K : PySem.W.Frag} {G G' : Hp} {σ : St} (s : Same G G') : ∀ {vs : List V} {rs : List R}, RpRs K G σ vs rs → RpRs K G' σ vs rs
  | [], [], _ => trivial
  | _ :: _, _ :: _, h => ⟨h.1.mv s, h.2.mv s⟩
def PostA (K : PySem.W.Frag) (E : XK) (B : Addr → Prop) (σ : St) (H : Hp) (l : List Addr) (rs : Rs (List R)) (Q : List V → Hp → Prop) : Prop :=
  match rs with
  | .ok r env' => ∀ vs H', Rep K B σ H' env' l → Fr l H H' → RpRs K (off (un B l) H') σ vs r → Q vs H'
  | .ex C f d => Exn K E B H l C f d
structure OkE (K : PySem.W.Frag) (E : XK) (t : TE) (f : M R) : Prop where
  run : ∀ {B : Addr → Prop} {σ : St} {H : Hp} {env : En} {l : List Addr} {rs : Rs R}, Rep K B σ H env l → f env = some rs → ∀ {Q : VK}, PostE K E B σ H l rs Q → t σ H Q
structure OkT (K : PySem.W.Frag) (E : XK) (t : TT) (f : M Bool) : Prop where
  run : ∀ {B : Addr → Prop} {σ : St} {H : Hp} {env : En} {l : List Addr} {rs : Rs Bool}, Rep K B σ H env l → f env = some rs → ∀ {Q : Bool → Hp → Prop}, PostT K E B σ H l rs Q → t σ H Q
structure OkA (K : PySem.W.Frag) (E : XK) (t : TA) (f : M (List R)) : Prop where
  run : ∀ {B : Addr → Prop} {σ : St} {H : Hp} {env : En} {l : List Addr} {rs : Rs (List R)}, Rep K B σ H env l → f env = some rs → ∀ {Q : List V → Hp → Prop}, PostA K E B σ H l rs Q → t σ H Q
theorem bind_some {α β : Type} {x : M α} {f : α → M β} {env : En} {rs : Rs β} (h : (M.bind x f) env = some rs) : (∃ a e, x env = some (.ok a e) ∧ f a e = some rs) ∨ ∃ C g d, x env = some (.ex C g d) ∧ rs = .ex C g d := by
  unfold M.bind at h
  split at h
  · cases h
  · exact .inl ⟨_, _, by assumption, h⟩
  · cases h
    exact .inr ⟨_, _, _, by assumption, rfl⟩
theorem lift_some {α : Type} {o : Option α} {env : En} {rs : Rs α} (h : lift o env = some rs) : ∃ a, o = some a ∧ rs = .ok a env := by
  obtain ⟨a, e1, e2⟩ := Option.map_eq_some_iff.mp h
  exact ⟨a, e1, e2.symm⟩
section
variable {K : PySem.W.Frag} {E : XK}
/-- take the first step of a bind: its exception is passed on -/
theorem OkE.seq {α : Type} {ta : TE} {fa : M R} {g : R → M α} (oa : OkE K E ta fa) {B : Addr → Prop} {σ : St} {H : Hp} {env : En} {l : List Addr} {rs : Rs α} (r : Rep K B σ H env l) (h : (M.bind fa g) env = some rs) {Q : VK}
    (hx : ∀ C f d, rs = .ex C f d → Exn K E B H l C f d) (hq : ∀ a e v H', g a e = some rs → Rep K B σ H' e l → Fr l H H' → RpR K (off (un B l) H') σ v a → Q v H') : ta σ H Q := by
  rcases bind_some h with ⟨a, e, h1, h2⟩ | ⟨C, f, d, h1, h2⟩
  · exact oa.run r h1 (fun v H' r' fr q => hq a e v H' h2 r' fr q)
  · exact oa.run r h1 (hx C f d h2)
theorem OkA.seq {α : Type} {ta : TA} {fa : M (List R)} {g : List R → M α} (oa : OkA K E ta fa) {B : Addr → Prop} {σ : St} {H : Hp} {env : En} {l : List Addr} {rs : Rs α} (r : Rep K B σ H env l) (h : (M.bind fa g) env = some rs) {Q : List V → Hp → Prop}
    (hx : ∀ C f d, rs = .ex C f d → Exn K E B H l C f d) (hq : ∀ a e v H', g a e = some rs → Rep K B σ H' e l → Fr l H H' → RpRs K (off (un B l) H') σ v a → Q v H') : ta σ H Q := by
  rcases bind_some h with ⟨a, e, h1, h2⟩ | ⟨C, f, d, h1, h2⟩
  · exact oa.run r h1 (fun v H' r' fr q => hq a e v H' h2 r' fr q)
  · exact oa.run r h1 (hx C f d h2)
theorem OkT.seq {α : Type} {ta : TT} {fa : M Bool} {g : Bool → M α} (oa : OkT K E ta fa) {B : Addr → Prop} {σ : St} {H : Hp} {env : En} {l : List Addr} {rs : Rs α} (r : Rep K B σ H env l) (h : (M.bind fa g) env = some rs) {Q : Bool → Hp → Prop}
    (hx : ∀ C f d, rs = .ex C f d → Exn K E B H l C f d) (hq : ∀ a e H', g a e = some rs → Rep K B σ H' e l → Fr l H H' → Q a H') : ta σ H Q := by
  rcases bind_some h with ⟨a, e, h1, h2⟩ | ⟨C, f, d, h1, h2⟩
  · exact oa.run r h1 (fun H' r' fr => hq a e H' h2 r' fr)
  · exact oa.run r h1 (hx C f d h2)
theorem PostE.exn {B : Addr → Prop} {σ : St} {H : Hp} {l : List Addr} {rs : Rs R} {Q : VK} (h : PostE K E B σ H l rs Q) : ∀ C f d, rs = .ex C f d → Exn K E B H l C f d := fun C f d e => by subst e; exact h
theorem PostT.exn {B : Addr → Prop} {σ : St} {H : Hp} {l : List Addr} {rs : Rs Bool} {Q : Bool → Hp → Prop} (h : PostT K E B σ H l rs Q) : ∀ C f d, rs = .ex C f d → Exn K E B H l C f d := fun C f d e => by subst e; exact h
theorem PostA.exn {B : Addr → Prop} {σ : St} {H : Hp} {l : List Addr} {rs : Rs (List R)} {Q : List V → Hp → Prop} (h : PostA K E B σ H l rs Q) : ∀ C f d, rs = .ex C f d → Exn K E B H l C f d := fun C f d e => by subst e; exact h
theorem exn_later {α : Type} {B : Addr → Prop} {H H1 : Hp} {l : List Addr} {rs : Rs α} (h : ∀ C f d, rs = .ex C f d → Exn K E B H l C f d) (s : Fr l H H1) : ∀ C f d, rs = .ex C f d → Exn K E B H1 l C f d := fun C f d e => (h C f d e).later s
theorem PostE.later {B : Addr → Prop} {σ : St} {H H1 : Hp} {l : List Addr} {rs : Rs R} {Q : VK} (h : PostE K E B σ H l rs Q) (s : Fr l H H1) : PostE K E B σ H1 l rs Q := by
  cases rs with
  | ok r env => exact fun v H' r' fr q => h v H' r' (s.trans fr) q
  | ex C f d => exact Exn.later h s
theorem PostT.later {B : Addr → Prop} {σ : St} {H H1 : Hp} {l : List Addr} {rs : Rs Bool} {Q : Bool → Hp → Prop} (h : PostT K E B σ H l rs Q) (s : Fr l H H1) : PostT K E B σ H1 l rs Q := by
  cases rs with
  | ok r env => exact fun H' r' fr => h H' r' (s.trans fr)
  | ex C f d => exact Exn.later h s
/-! names, constants -/
def get (i : Nat) : M R := fun env =>
  match env[i]? with
  | some (some (.dat d)) => some (.ok (.dat d) env)
  | some (some (.own _)) => some (.ok (.slot i) env)
  | some (some (.exc C f d)) => some (.ok (.exc C f d) env)
  | some (some (.dct _)) => some (.ok (.slot i) env)
  | some (some (.lin _ _ _)) => some (.ok (.slot i) env)
  | some (some (.dci _)) => some (.ok (.slot i) env)
  | some (some (.dtk _)) => some (.ok (.slot i) env)
  | some (some (.dts _)) => some (.ok (.slot i) env)
  | some (some (.pin _ d)) => some (.ok (.dat d) env)
  | _ => none
theorem OkE.var (i : Nat) : OkE K E (tVar i) (get i) := by
  refine ⟨?_⟩
  intro B σ H env l rs r h Q post
  unfold get at h
  cases q : env[i]? with
  | none => rw [q] at h; cases h
  | some e =>
    cases e with
    | none => rw [q] at h; cases h
    | some w =>
      rw [q] at h
      obtain ⟨s, a, lx, ly, q1, q2, ⟨v, q3, q4⟩, _⟩ := r.rp.focus q
      subst q3
      refine ⟨v, q1, ?_⟩
      cases w with
      | dat d => cases h; exact post v H r (Fr.refl _ _) q4.2
      | own xs => cases h; exact post v H r (Fr.refl _ _) q1
      | exc C f d => cases h; exact post v H r (Fr.refl _ _) q4.2
      | dct _ => cases h; exact post v H r (Fr.refl _ _) q1
      | lin _ _ _ => cases h; exact post v H r (Fr.refl _ _) q1
      | dci ks => cases h; exact post v H r (Fr.refl _ _) q1
      | dtk ks => cases h; exact post v H r (Fr.refl _ _) q1
      | dts ks => cases h; exact post v H r (Fr.refl _ _) q1
      | pin u d => cases h; exact post v H r (Fr.refl _ _) q4.2.2
      | dtn _ => cases h
      | dtd _ => cases h
      | nd _ => cases h
      | ndd _ => cases h
      | lkd _ => cases h
def con (d : PyData) : M R := M.pure (.dat d)
theorem OkE.con {v : V} {d : PyData} (hd : ∀ H : Hp, Da K H v d) : OkE K E (fun _ H Q => Q v H) (con d) := by
  refine ⟨?_⟩
  intro B σ H env l rs r h Q post
  cases h
  exact post v H r (Fr.refl _ _) (hd _)
/-! operations -/
def OpOk (K : PySem.W.Frag) (r : R2) (fo : PyData → PyData → Option PyData) : Prop := ∀ {S : Addr → Prop} {H : Hp} {x y : V} {a b d : PyData}, (∀ q, S q → ∃ o, H q = some o ∧ NT o) → Vw K S H x a → Vw K S H y b → fo a b = some d →
  ∀ {Q : VK}, (∀ v H', Same H H' → Da K (off S H') v d → Q v H') → r x y H Q
def UnOk (K : PySem.W.Frag) (r : V → Hp → VK → Prop) (fo : PyData → Option PyData) : Prop := ∀ {S : Addr → Prop} {H : Hp} {x : V} {a d : PyData}, (∀ q, S q → ∃ o, H q = some o ∧ NT o) → Vw K S H x a → fo a = some d →
  ∀ {Q : VK}, (∀ v H', Same H H' → Da K (off S H') v d → Q v H') → r x H Q
inductive VwAll (K : PySem.W.Frag) (S : Addr → Prop) (H : Hp) : List V → List PyData → Prop
  | nil : VwAll K S H [] []
  | cons {v : V} {vs : List V} {d : PyData} {ds : List PyData} : Vw K S H v d → VwAll K S H vs ds → VwAll K S H (v :: vs) (d :: ds)
def CbOk (K : PySem.W.Frag) (r : List V → Hp → VK → Prop) (fo : List PyData → Option PyData) : Prop := ∀ {S : Addr → Prop} {H : Hp} {xs : List V} {as : List PyData} {d : PyData}, (∀ q, S q → ∃ o, H q = some o ∧ NT o) → VwAll K S H xs as → fo as = some d →
  ∀ {Q : VK}, (∀ v H', Same H H' → Da K (off S H') v d → Q v H') → r xs H Q
def op2 (fo : PyData → PyData → Option PyData) (fa fb : M R) : M R := M.bind fa fun a => M.bind fb fun b => M.bind (vw a) fun x => M.bind (vw b) fun y => M.bind (lift (fo x y)) fun d => M.pure (.dat d)
def op1 (fo : PyData → Option PyData) (fa : M R) : M R := M.bind fa fun a => M.bind (vw a) fun x => M.bind (lift (fo x)) fun d => M.pure (.dat d)
theorem vw_step {α : Type} {B : Addr → Prop} {σ : St} {H : Hp} {env : En} {l : List Addr} {v : V} {r : R} {g : PyData → M α} {rs : Rs α} (h : Rep K B σ H env l) (q : RpR K (off (un B l) H) σ v r) (e : (M.bind (vw r) g) env = some rs) :
    ∃ d, g d env = some rs ∧ Vw K (un B l) H v d := by
  rcases bind_some e with ⟨a, e1, h1, h2⟩ | ⟨C, f, d, h1, _⟩
  · obtain ⟨rfl, q2⟩ := vw_ok h q h1
    exact ⟨a, h2, q2⟩
  · exact absurd h1 vw_noex
theorem lift_step {α β : Type} {o : Option α} {g : α → M β} {env : En} {rs : Rs β} (e : (M.bind (lift o) g) env = some rs) : ∃ a, o = some a ∧ g a env = some rs := by
  rcases bind_some e with ⟨a, e1, h1, h2⟩ | ⟨C, f, d, h1, _⟩
  · obtain ⟨b, e2, e3⟩ := lift_some h1
    cases e3
    exact ⟨a, e2, h2⟩
  · obtain ⟨b, e2, e3⟩ := lift_some h1
    cases e3
theorem OkE.op {r : R2} {fo : PyData → PyData → Option PyData} {ta tb : TE} {fa fb : M R} (o : OpOk K r fo) (oa : OkE K E ta fa) (ob : OkE K E tb fb) : OkE K E (tOp r ta tb) (op2 fo fa fb) := by
  refine ⟨?_⟩
  intro B σ H env l rs rp h Q post
  refine oa.seq rp h post.exn fun a e v1 H1 h1 r1 f1 q1 => ?_
  refine ob.seq r1 h1 (exn_later post.exn f1) fun b e2 v2 H2 h2 r2 f2 q2 => ?_
  obtain ⟨x, h3, w1⟩ := vw_step r2 (q1.mv f2.keep) h2
  obtain ⟨y, h4, w2⟩ := vw_step r2 q2 h3
  obtain ⟨d, h5, h6⟩ := lift_step h4
  cases h6
  exact o r2.tl w1 w2 h5 fun v H' s q => post v H' (r2.same s) ((f1.trans f2).trans (Fr.of s)) q
theorem OkE.un {r : V → Hp → VK → Prop} {fo : PyData → Option PyData} {ta : TE} {fa : M R} (o : UnOk K r fo) (oa : OkE K E ta fa) : OkE K E (tUn r ta) (op1 fo fa) := by
  refine ⟨?_⟩
  intro B σ H env l rs rp h Q post
  refine oa.seq rp h post.exn fun a e v1 H1 h1 r1 f1 q1 => ?_
  obtain ⟨x, h3, w1⟩ := vw_step r1 q1 h1
  obtain ⟨d, h5, h6⟩ := lift_step h3
  cases h6
  exact o r1.tl w1 h5 fun v H' s q => post v H' (r1.same s) (f1.trans (Fr.of s)) q
/-! arguments -/
def anil : M (List R) := M.pure []
def acons (fa : M R) (fr : M (List R)) : M (List R) := M.bind fa fun a => M.bind fr fun r => M.pure (a :: r)
theorem OkA.nil : OkA K E tNil anil := by
  refine ⟨?_⟩
  intro B σ H env l rs rp h Q post
  cases h
  exact post [] H rp (Fr.refl _ _) trivial
theorem OkA.cons {ta : TE} {tr : TA} {fa : M R} {fr : M (List R)} (oa : OkE K E ta fa) (or : OkA K E tr fr) : OkA K E (tCons ta tr) (acons fa fr) := by
  refine ⟨?_⟩
  intro B σ H env l rs rp h Q post
  refine oa.seq rp h post.exn fun a e v1 H1 h1 r1 f1 q1 => ?_
  refine or.seq r1 h1 (exn_later post.exn f1) fun b e2 v2 H2 h2 r2 f2 q2 => ?_
  cases h2
  exact post (v1 :: v2) H2 r2 (f1.trans f2) ⟨q1.mv f2.keep, q2⟩
def vws : List R → M (List PyData)
  | [] => M.pure []
  | r :: rs => M.bind (vw r) fun d => M.bind (vws rs) fun ds => M.pure (d :: ds)
theorem vws_ok {B : Addr → Prop} {σ : St} {H : Hp} {env : En} {l : List Addr} (h : Rep K B σ H env l) : ∀ {vs : List V} {rs : List R} {α : Type} {g : List PyData → M α} {z : Rs α}, RpRs K (off (un B l) H) σ vs rs → (M.bind (vws rs) g) env = some z → ∃ ds, g ds env = some z ∧ VwAll K (un B l) H vs ds
  | [], [], α, g, z, _, e => ⟨[], e, .nil⟩
  | v :: vs, r :: rs, α, g, z, q, e => by
    have e' : (M.bind (vw r) fun d => M.bind (vws rs) fun ds => g (d :: ds)) env = some z := by
      rw [← e]
      show _ = (M.bind (M.bind (vw r) fun d => M.bind (vws rs) fun ds => M.pure (d :: ds)) g) env
      unfold M.bind
      cases vw r env with
      | none => rfl
      | some a =>
        cases a with
        | ok a e2 =>
          simp only
          cases vws rs e2 with
          | none => rfl
          | some b => cases b <;> rfl
        | ex _ _ _ => rfl
    obtain ⟨d, e2, w⟩ := vw_step h q.1 e'
    obtain ⟨ds, e3, w2⟩ := vws_ok h q.2 e2
    exact ⟨d :: ds, e3, .cons w w2⟩
def cb (fo : List PyData → Option PyData) (fa : M (List R)) : M R := M.bind fa fun a => M.bind (vws a) fun ds => M.bind (lift (fo ds)) fun d => M.pure (.dat d)
theorem OkE.cb {r : List V → Hp → VK → Prop} {fo : List PyData → Option PyData} {t : TA} {fa : M (List R)} (o : CbOk K r fo) (oa : OkA K E t fa) : OkE K E (tCB r t) (Ov.cb fo fa) := by
  refine ⟨?_⟩
  intro B σ H env l rs rp h Q post
  refine oa.seq rp h post.exn fun a e vs H1 h1 r1 f1 q1 => ?_
  obtain ⟨ds, h2, w⟩ := vws_ok r1 q1 h1
  obtain ⟨d, h5, h6⟩ := lift_step h2
  cases h6
  exact o r1.tl w h5 fun v H' s q => post v H' (r1.same s) (f1.trans (Fr.of s)) q
/-! data that a new object holds -/
theorem Vw.da {S : Addr → Prop} {H : Hp} {v : V} {d : PyData} (h : Vw K S H v d) : Da K H v d := by
  rcases h with h | ⟨p, vs, ds, e1, e2, e3, e4⟩
  · exact Da.same (off_sub S H) d h
  · subst e1 e2
    exact .lst (SqL.of e3) (DaAll.same (off_sub S H) ds e4)
/-- results that are data through and through -/
def dds : List R → Option (List PyData)
  | [] => some []
  | .dat d :: r => (dds r).map (d :: ·)
  | _ :: _ => none
theorem dds_ok {G : Hp} {σ : St} : ∀ {vs : List V} {rs : List R} {ds : List PyData}, RpRs K G σ vs rs → dds rs = some ds → DaAll K G vs ds
  | [], [], ds, _, e => by cases e; exact .nil
  | v :: vs, .dat d :: rs, ds, q, e => by
    obtain ⟨x, e1, e2⟩ := Option.map_eq_some_iff.mp (show (dds rs).map (d :: ·) = some ds from e)
    subst e2
    exact .cons q.1 (dds_ok q.2 e1)
  | v :: vs, .slot i :: rs, ds, q, e => by cases e
  | v :: vs, .exc _ _ _ :: rs, ds, q, e => by cases e
theorem new_dp {S : Addr → Prop} {H : Hp} {p : Addr} {vs : List V} {ds : List PyData} (hS : ∀ q, S q → ∃ o, H q = some o ∧ NT o) (hp : H p = none) (h : DaAll K (off S H) vs ds) :
    Da K (off S (upd H p (.lst vs))) (.ref p) (.list ds) ∧ ∀ o : Obj, o.dict = none → Da K (off S (upd H p (.frz o (.tup vs)))) (.ref p) (.tuple ds) := by
  have np : ¬ S p := fun z => by obtain ⟨o, e, _⟩ := hS p z; rw [hp] at e; cases e
  have k : ∀ o, Same (off S H) (off S (upd H p o)) := fun o => off_mono (fun b z n => absurd z n) fun b u n e => by rw [upd_ne (ne_of_none e hp)]; exact e
  exact ⟨.lst (SqL.of ((off_ne np).trans upd_same)) (DaAll.same (k _) ds h), fun o od => .tup ⟨o, (off_ne np).trans upd_same, od⟩ (DaAll.same (k _) ds h)⟩
def sz (n : Nat) : Option Unit := if n ≤ 1000000 then some () else none
theorem sz_ok {n : Nat} {u : Unit} (h : sz n = some u) : n ≤ sizeLine := by
  unfold sz at h
  split at h
  · exact Nat.le_trans (by assumption) (by decide)
  · cases h
def tupD (fa : M (List R)) : M R := M.bind fa fun a => M.bind (lift (dds a)) fun ds => M.bind (lift (sz ds.length)) fun _ => M.pure (.dat (.tuple ds))
def lstD (fa : M (List R)) : M R := M.bind fa fun a => M.bind (lift (dds a)) fun ds => M.bind (lift (sz ds.length)) fun _ => M.pure (.dat (.list ds))
theorem OkE.tup {t : TA} {fa : M (List R)} (oa : OkA K E t fa) : OkE K E (tTupB t) (tupD fa) := by
  refine ⟨?_⟩
  intro B σ H env l rs rp h Q post
  refine oa.seq rp h post.exn fun a e vs H1 h1 r1 f1 q1 => ?_
  obtain ⟨ds, e1, h2⟩ := lift_step h1
  obtain ⟨u, e2, h3⟩ := lift_step h2
  cases h3
  have dp := dds_ok q1 e1
  refine ⟨by rw [daAll_len dp]; exact sz_ok e2, fun p o hp od => ?_⟩
  exact post _ _ (r1.same (same_new hp _)) (f1.trans (Fr.of (same_new hp _))) ((new_dp r1.tl hp dp).2 o od)
theorem OkE.lst {t : TA} {fa : M (List R)} (oa : OkA K E t fa) : OkE K E (tLst t) (lstD fa) := by
  refine ⟨?_⟩
  intro B σ H env l rs rp h Q post
  refine oa.seq rp h post.exn fun a e vs H1 h1 r1 f1 q1 => ?_
  obtain ⟨ds, e1, h2⟩ := lift_step h1
  obtain ⟨u, e2, h3⟩ := lift_step h2
  cases h3
  have dp := dds_ok q1 e1
  refine ⟨by rw [daAll_len dp]; exact sz_ok e2, fun p hp => ?_⟩
  exact post _ _ (r1.same (same_new hp _)) (f1.trans (Fr.of (same_new hp _))) (new_dp r1.tl hp dp).1
/-! truth, and, or, not, if *)-/
def tb1 (fa : M R) : M Bool := M.bind fa fun a => M.bind (vw a) fun d => match d with
  | .bool b => M.pure b
  | _ => fun _ => none
theorem OkT.val {t : TE} {fa : M R} (oa : OkE K E t fa) : OkT K E (tB t) (tb1 fa) := by
  refine ⟨?_⟩
  intro B σ H env l rs rp h Q post
  refine oa.seq rp h post.exn fun a e v1 H1 h1 r1 f1 q1 => ?_
  obtain ⟨d, h2, w⟩ := vw_step r1 q1 h1
  cases d with
  | bool b =>
    cases h2
    have := w.da
    cases this
    exact ⟨b, rfl, post H1 r1 f1⟩
  | none => cases h2
  | int _ => cases h2
  | str _ => cases h2
  | list _ => cases h2
  | tuple _ => cases h2
  | dict _ => cases h2
theorem OkT.test {t : TE} {fa : M R} (oa : OkE K E t fa) : OkT K E (tTest t) (tb1 fa) := OkT.val oa
def andT (fa fb : M Bool) : M Bool := M.bind fa fun a => if a = true then fb else M.pure false
def orT (fa fb : M Bool) : M Bool := M.bind fa fun a => if a = true then M.pure true else fb
def notT (fa : M Bool) : M Bool := M.bind fa fun a => M.pure (!a)
theorem OkT.or {ta tb : TT} {fa fb : M Bool} (oa : OkT K E ta fa) (ob : OkT K E tb fb) : OkT K E (tOr ta tb) (orT fa fb) := by
  refine ⟨?_⟩
  intro B σ H env l rs rp h Q post
  refine oa.seq rp h post.exn fun a e H1 h1 r1 f1 => ?_
  cases a with
  | true => refine iteT ?_; simp only [if_true] at h1; cases h1; exact post H1 r1 f1
  | false => exact iteF (ob.run r1 (by simpa using h1) (post.later f1))
theorem OkT.not {ta : TT} {fa : M Bool} (oa : OkT K E ta fa) : OkT K E (tNot ta) (notT fa) := by
  refine ⟨?_⟩
  intro B σ H env l rs rp h Q post
  refine oa.seq rp h post.exn fun a e H1 h1 r1 f1 => ?_
  cases h1
  exact post H1 r1 f1
def ofB (b : Bool) : R := .dat (.bool b)
def andV (fa fb : M R) : M R := M.bind (tb1 fa) fun a => if a = true then fb else M.pure (ofB false)
def orV (fa fb : M R) : M R := M.bind (tb1 fa) fun a => if a = true then M.pure (ofB true) else fb
def notV (fa : M R) : M R := M.bind (tb1 fa) fun a => M.pure (ofB !a)
theorem OkE.and {ta tb : TE} {fa fb : M R} (oa : OkE K E ta fa) (ob : OkE K E tb fb) : OkE K E (tAndV ta tb) (andV fa fb) := by
  refine ⟨?_⟩
  intro B σ H env l rs rp h Q post
  refine (OkT.val oa).seq rp h post.exn fun a e H1 h1 r1 f1 => ?_
  cases a with
  | true => exact iteT (ob.run r1 (by simpa using h1) (post.later f1))
  | false => refine iteF ?_; simp only [Bool.false_eq_true, if_false] at h1; cases h1; exact post _ H1 r1 f1 (.bl false)
theorem OkE.not {ta : TE} {fa : M R} (oa : OkE K E ta fa) : OkE K E (tNotV ta) (notV fa) := by
  refine ⟨?_⟩
  intro B σ H env l rs rp h Q post
  refine (OkT.val oa).seq rp h post.exn fun a e H1 h1 r1 f1 => ?_
  cases h1
  exact post _ H1 r1 f1 (.bl _)
def ifE (ft : M Bool) (fa fb : M R) : M R := M.bind ft fun c => if c = true then fa else fb
theorem OkE.ife {tt : TT} {ta tb : TE} {ft : M Bool} {fa fb : M R} (ot : OkT K E tt ft) (oa : OkE K E ta fa) (ob : OkE K E tb fb) : OkE K E (tIf tt ta tb) (ifE ft fa fb) := by
  refine ⟨?_⟩
  intro B σ H env l rs rp h Q post
  refine ot.seq rp h post.exn fun c e H1 h1 r1 f1 => ?_
  cases c with
  | true => exact iteT (oa.run r1 (by simpa using h1) (post.later f1))
  | false => exact iteF (ob.run r1 (by simpa using h1) (post.later f1))
def chainE (fo fo' : PyData → PyData → Option PyData) (fa fb fc : M R) : M R := M.bind fa fun a => M.bind fb fun b => M.bind (vw a) fun x => M.bind (vw b) fun y => M.bind (lift (fo x y)) fun d => match d with
  | .bool k => if k = true then M.bind fc fun c => M.bind (vw b) fun y' => M.bind (vw c) fun z => M.bind (lift (fo' y' z)) fun d' => M.pure (.dat d') else M.pure (ofB false)
  | _ => fun _ => none
theorem OkE.chain {r r' : R2} {fo fo' : PyData → PyData → Option PyData} {ta tb tc : TE} {fa fb fc : M R} (o : OpOk K r fo) (o' : OpOk K r' fo') (oa : OkE K E ta fa) (ob : OkE K E tb fb) (oc : OkE K E tc fc) :
    OkE K E (tChain r r' ta tb tc) (chainE fo fo' fa fb fc) := by
  refine ⟨?_⟩
  intro B σ H env l rs rp h Q post
  refine oa.seq rp h post.exn fun a e v1 H1 h1 r1 f1 q1 => ?_
  refine ob.seq r1 h1 (exn_later post.exn f1) fun b e2 v2 H2 h2 r2 f2 q2 => ?_
  obtain ⟨x, h3, w1⟩ := vw_step r2 (q1.mv f2.keep) h2
  obtain ⟨y, h4, w2⟩ := vw_step r2 q2 h3
  obtain ⟨d, h5, h6⟩ := lift_step h4
  refine o r2.tl w1 w2 h5 fun v H3 s q => ?_
  have r3 := r2.same s
  have f3 := (f1.trans f2).trans (Fr.of s)
  cases d with
  | bool k =>
    cases q
    refine ⟨k, rfl, ?_⟩
    cases k with
    | true =>
      refine iteT ?_
      simp only [if_true] at h6
      refine oc.seq r3 h6 (exn_later post.exn f3) fun c e4 v4 H4 h7 r4 f4 q4 => ?_
      obtain ⟨y', h8, w3⟩ := vw_step r4 ((q2.mv (Fr.keep (Fr.of s))).mv f4.keep) h7
      obtain ⟨z, h9, w4⟩ := vw_step r4 q4 h8
      obtain ⟨d', ha, hb⟩ := lift_step h9
      cases hb
      exact o' r4.tl w3 w4 ha fun v H' s' q => post v H' (r4.same s') ((f3.trans f4).trans (Fr.of s')) q
    | false => refine iteF ?_; simp only [Bool.false_eq_true, if_false] at h6; cases h6; exact post _ H3 r3 f3 (.bl false)
  | none => cases h6
  | int _ => cases h6
  | str _ => cases h6
  | list _ => cases h6
  | tuple _ => cases h6
  | dict _ => cases h6
end
end Ov
set_option Elab.async false
set_option linter.all false
set_option maxRecDepth 100000
set_option maxHeartbeats 4000000
namespace Ov
open PySem L2
/-! operators by data -/
section
variable {K : PySem.W.Frag} {S : Addr → Prop} {H : Hp} {x y : V}
theorem vw_int {i : Int} (h : Vw K S H x (.int i)) : x = .int i := by have := h.da; cases this; rfl
theorem vw_bool {b : Bool} (h : Vw K S H x (.bool b)) : x = .bl b := by have := h.da; cases this; rfl
theorem vw_str {z : Str} (h : Vw K S H x (.str z)) : x = .str z := by have := h.da; cases this; rfl
theorem vw_none (h : Vw K S H x .none) : x = .non := by have := h.da; cases this; rfl
theorem vw_list {ds : List PyData} (h : Vw K S H x (.list ds)) : ∃ p vs, x = .ref p ∧ SqL K H p vs ∧ DaAll K (off S H) vs ds := by
  rcases h with h | ⟨p, vs, es, e1, e2, e3, e4⟩
  · cases h with | lst q t => exact ⟨_, _, rfl, rd_same (off_sub S H) q, t⟩
  · cases e2; exact ⟨p, vs, e1, .inl (.inl e3), e4⟩
theorem vw_tup {ds : List PyData} (h : Vw K S H x (.tuple ds)) : ∃ p vs, x = .ref p ∧ SqT K (off S H) p vs ∧ DaAll K (off S H) vs ds := by
  rcases h with h | ⟨p, vs, es, e1, e2, e3, e4⟩
  · cases h with | tup q t => exact ⟨_, _, rfl, q.sq, t⟩
  · cases e2
theorem vw_tupP {ds : List PyData} (h : Vw K S H x (.tuple ds)) : ∃ p vs, x = .ref p ∧ TP (off S H) p vs ∧ DaAll K (off S H) vs ds := by
  rcases h with h | ⟨p, vs, es, e1, e2, e3, e4⟩
  · cases h with | tup q t => exact ⟨_, _, rfl, q, t⟩
  · cases e2
end
def seqD : PyData → Option (List PyData)
  | .list ds => some ds
  | .tuple ds => some ds
  | _ => none
theorem vw_seq {K : PySem.W.Frag} {S : Addr → Prop} {H : Hp} {x : V} {d : PyData} {ds : List PyData} (h : Vw K S H x d) (e : seqD d = some ds) : ∃ p vs, x = .ref p ∧ (SqL K H p vs ∨ SqT K H p vs) ∧ DaAll K (off S H) vs ds := by
  cases d with
  | list es => cases e; obtain ⟨p, vs, e1, e2, e3⟩ := vw_list h; exact ⟨p, vs, e1, .inl (rd_sq e2), e3⟩
  | tuple es => cases e; obtain ⟨p, vs, e1, e2, e3⟩ := vw_tup h; exact ⟨p, vs, e1, .inr (seqT (off_sub S H) e2), e3⟩
  | none => cases e
  | bool _ => cases e
  | int _ => cases e
  | str _ => cases e
  | dict _ => cases e
theorem vw_seqP {K : PySem.W.Frag} {S : Addr → Prop} {H : Hp} {x : V} {d : PyData} {ds : List PyData} (h : Vw K S H x d) (e : seqD d = some ds) : ∃ p vs, x = .ref p ∧ (SqL K H p vs ∨ TP H p vs) ∧ DaAll K (off S H) vs ds := by
  cases d with
  | list es => cases e; obtain ⟨p, vs, e1, e2, e3⟩ := vw_list h; exact ⟨p, vs, e1, .inl (rd_sq e2), e3⟩
  | tuple es => cases e; obtain ⟨p, vs, e1, e2, e3⟩ := vw_tupP h; exact ⟨p, vs, e1, .inr e2.off, e3⟩
  | none => cases e
  | bool _ => cases e
  | int _ => cases e
  | str _ => cases e
  | dict _ => cases e
def iI (h : Int → Int → Int) (a b : PyData) : Option PyData :=
  match a, b with
  | .int i, .int j => some (.int (h i j))
  | _, _ => none
def iIc (p : Int → Int → Bool) (h : Int → Int → Int) (a b : PyData) : Option PyData :=
  match a, b with
  | .int i, .int j => if p i j = true then some (.int (h i j)) else none
  | _, _ => none
def iB (h : Int → Int → Bool) (a b : PyData) : Option PyData :=
  match a, b with
  | .int i, .int j => some (.bool (h i j))
  | _, _ => none
section
variable {K : PySem.W.Frag}
theorem iI_some {h : Int → Int → Int} {a b d : PyData} (e : iI h a b = some d) : ∃ i j, a = .int i ∧ b = .int j ∧ d = .int (h i j) := by
  unfold iI at e
  split at e
  · cases e; exact ⟨_, _, rfl, rfl, rfl⟩
  · cases e
theorem iB_some {h : Int → Int → Bool} {a b d : PyData} (e : iB h a b = some d) : ∃ i j, a = .int i ∧ b = .int j ∧ d = .bool (h i j) := by
  unfold iB at e
  split at e
  · cases e; exact ⟨_, _, rfl, rfl, rfl⟩
  · cases e
theorem iIc_some {p : Int → Int → Bool} {h : Int → Int → Int} {a b d : PyData} (e : iIc p h a b = some d) : ∃ i j, a = .int i ∧ b = .int j ∧ p i j = true ∧ d = .int (h i j) := by
  unfold iIc at e
  split at e
  · split at e
    · cases e; exact ⟨_, _, rfl, rfl, by assumption, rfl⟩
    · cases e
  · cases e
theorem okI {h : Int → Int → Int} : OpOk K (rI0 fun i j => .int (h i j)) (iI h) := by
  intro S H x y a b d hS wa wb e Q q
  obtain ⟨i, j, rfl, rfl, rfl⟩ := iI_some e
  exact ⟨i, j, vw_int wa, vw_int wb, q _ _ (same_refl _) (.int _)⟩
theorem okB {h : Int → Int → Bool} : OpOk K (rI0 fun i j => .bl (h i j)) (iB h) := by
  intro S H x y a b d hS wa wb e Q q
  obtain ⟨i, j, rfl, rfl, rfl⟩ := iB_some e
  exact ⟨i, j, vw_int wa, vw_int wb, q _ _ (same_refl _) (.bl _)⟩
theorem okC {C : Int → Int → Prop} {p : Int → Int → Bool} {h : Int → Int → Int} (hp : ∀ i j, p i j = true → C i j) : OpOk K (rI C fun i j => .int (h i j)) (iIc p h) := by
  intro S H x y a b d hS wa wb e Q q
  obtain ⟨i, j, rfl, rfl, hc, rfl⟩ := iIc_some e
  exact ⟨i, j, vw_int wa, vw_int wb, hp i j hc, q _ _ (same_refl _) (.int _)⟩
def addD := iI (· + ·)
def subD := iI (· - ·)
def pMul (i j : Int) : Bool := decide (-(2 ^ 64) < i ∧ i < 2 ^ 64) || decide (-(2 ^ 64) < j ∧ j < 2 ^ 64)
def pDiv (_ j : Int) : Bool := decide (0 < j ∧ j < 1073741824)
def pMod (_ j : Int) : Bool := decide (0 < j)
def pPow (i j : Int) : Bool := decide (0 ≤ j ∧ j ≤ 1000000 ∧ i.natAbs < 2 ^ 64)
def mulD := iIc pMul (· * ·)
def divD := iIc pDiv (· / ·)
def modD := iIc pMod (· % ·)
def powD := iIc pPow (fun i j => i ^ j.toNat)
def ltD := iB fun i j => decide (i < j)
def leD := iB fun i j => decide (i ≤ j)
def gtD := iB fun i j => decide (j < i)
def geD := iB fun i j => decide (j ≤ i)
theorem ok_add : OpOk K (rI0 fun i j => .int (i + j)) addD := okI
theorem ok_lt : OpOk K (rI0 fun i j => .bl (decide (i < j))) ltD := okB
theorem ok_le : OpOk K (rI0 fun i j => .bl (decide (i ≤ j))) leD := okB
theorem ok_gt : OpOk K (rI0 fun i j => .bl (decide (j < i))) gtD := okB
theorem ok_ge : OpOk K (rI0 fun i j => .bl (decide (j ≤ i))) geD := okB
theorem ok_mul : OpOk K (rI CMul fun i j => .int (i * j)) mulD := okC fun i j h => (Bool.or_eq_true_iff.mp h).imp of_decide_eq_true of_decide_eq_true
theorem ok_div : OpOk K (rI CDiv fun i j => .int (i / j)) divD := okC fun i j h => of_decide_eq_true h
theorem ok_mod : OpOk K (rI (fun _ j => 0 < j) fun i j => .int (i % j)) modD := okC fun i j h => of_decide_eq_true h
theorem ok_pow : OpOk K (rI CPow fun i j => .int (i ^ j.toNat)) powD := okC fun i j h => of_decide_eq_true h
/-! == of atoms alike; of data -/
def eqA (n : Bool) (a b : PyData) : Option PyData :=
  match a, b with
  | .int i, .int j => some (.bool (n ^^ decide (i = j)))
  | .bool i, .bool j => some (.bool (n ^^ decide (i = j)))
  | .str i, .str j => some (.bool (n ^^ decide (i = j)))
  | .none, .none => some (.bool (n ^^ true))
  | _, _ => none
theorem eqA_some {n : Bool} {a b d : PyData} {S : Addr → Prop} {H : Hp} {x y : V} (wa : Vw K S H x a) (wb : Vw K S H y b) (e : eqA n a b = some d) : scal x y = true ∧ d = .bool (n ^^ decide (x = y)) := by
  unfold eqA at e
  split at e
  · rw [vw_int wa, vw_int wb]; cases e; exact ⟨rfl, by simp⟩
  · rw [vw_bool wa, vw_bool wb]; cases e; exact ⟨rfl, by simp⟩
  · rw [vw_str wa, vw_str wb]; cases e; exact ⟨rfl, by simp⟩
  · rw [vw_none wa, vw_none wb]; cases e; exact ⟨rfl, by simp⟩
  · cases e
theorem ok_eq : OpOk K rEq (eqA false) := by
  intro S H x y a b d hS wa wb e Q q
  obtain ⟨h1, rfl⟩ := eqA_some wa wb e
  exact ⟨h1, q _ _ (same_refl _) (by rw [Bool.false_xor]; exact .bl _)⟩
theorem ok_ne : OpOk K rNe (eqA true) := by
  intro S H x y a b d hS wa wb e Q q
  obtain ⟨h1, rfl⟩ := eqA_some wa wb e
  exact ⟨h1, q _ _ (same_refl _) (by rw [Bool.true_xor]; exact .bl _)⟩
def shp (d : PyData) : Bool := SeqAt.shaped d
def eqvD (n : Bool) (a b : PyData) : Option PyData := if shp a && shp b then some (.bool (n ^^ PyData.eqv a b)) else none
theorem ok_eqD : OpOk K (rEqD K) (eqvD false) := by
  intro S H x y a b d hS wa wb e Q q
  unfold eqvD at e
  split at e
  · rename_i h
    cases e
    rw [Bool.and_eq_true] at h
    exact ⟨a, b, Da.dp _ (shp_nd h.1) wa.da, Da.dp _ (shp_nd h.2) wb.da, h.1, h.2, q _ _ (same_refl _) (by rw [Bool.false_xor]; exact .bl _)⟩
  · cases e
theorem ok_neD : OpOk K (rNeD K) (eqvD true) := by
  intro S H x y a b d hS wa wb e Q q
  unfold eqvD at e
  split at e
  · rename_i h
    cases e
    rw [Bool.and_eq_true] at h
    exact ⟨a, b, Da.dp _ (shp_nd h.1) wa.da, Da.dp _ (shp_nd h.2) wb.da, h.1, h.2, q _ _ (same_refl _) (by rw [Bool.true_xor]; exact .bl _)⟩
  · cases e
/-! in -/
def atomD : PyData → Bool
  | .none | .bool _ | .int _ | .str _ => true
  | _ => false
theorem atom_flat {H : Hp} {x : V} {a : PyData} (h : Da K H x a) (e : atomD a = true) : flatV x = true := by
  cases h with
  | non => rfl
  | bl _ => rfl
  | int _ => rfl
  | str _ => rfl
  | lst _ _ => cases e
  | tup _ _ => cases e
  | dct _ _ _ _ => cases e
  | dtk _ _ _ _ => cases e
theorem atom_eqv {H : Hp} {x y : V} {a b : PyData} (h : Da K H x a) (h' : Da K H y b) (e : atomD a = true) (e' : atomD b = true) : eqV x y = PyData.eqv a b := by
  cases h with
  | non => cases h' with
    | non => rfl
    | bl _ => rfl
    | int _ => rfl
    | str _ => rfl
    | lst _ _ => cases e'
    | tup _ _ => cases e'
    | dct _ _ _ _ => cases e'
    | dtk _ _ _ _ => cases e'
  | bl _ => cases h' with
    | non => rfl
    | bl _ => rfl
    | int _ => rfl
    | str _ => rfl
    | lst _ _ => cases e'
    | tup _ _ => cases e'
    | dct _ _ _ _ => cases e'
    | dtk _ _ _ _ => cases e'
  | int _ => cases h' with
    | non => rfl
    | bl _ => rfl
    | int _ => rfl
    | str _ => rfl
    | lst _ _ => cases e'
    | tup _ _ => cases e'
    | dct _ _ _ _ => cases e'
    | dtk _ _ _ _ => cases e'
  | str _ => cases h' with
    | non => rfl
    | bl _ => rfl
    | int _ => rfl
    | str _ => rfl
    | lst _ _ => cases e'
    | tup _ _ => cases e'
    | dct _ _ _ _ => cases e'
    | dtk _ _ _ _ => cases e'
  | lst _ _ => cases e
  | tup _ _ => cases e
  | dct _ _ _ _ => cases e
  | dtk _ _ _ _ => cases e
theorem atoms_flat {H : Hp} : ∀ {vs : List V} {ds : List PyData}, DaAll K H vs ds → ds.all atomD = true → vs.all flatV = true
  | _, _, .nil, _ => rfl
  | _, _, .cons h t, e => by
    rw [List.all_cons, Bool.and_eq_true] at e ⊢
    exact ⟨atom_flat h e.1, atoms_flat t e.2⟩
theorem atoms_in {H : Hp} {x : V} {a : PyData} (h : Da K H x a) (e : atomD a = true) : ∀ {vs : List V} {ds : List PyData}, DaAll K H vs ds → ds.all atomD = true → inV x vs = ds.any fun z => PyData.eqv z a
  | _, _, .nil, _ => rfl
  | _, _, .cons h' t, e' => by
    rw [List.all_cons, Bool.and_eq_true] at e'
    have ih := atoms_in h e t e'.2
    unfold inV at ih ⊢
    rw [List.any_cons, List.any_cons, ih, atom_eqv h' h e'.1 e]
def inF (n : Bool) (a b : PyData) : Option PyData :=
  match seqD b with
  | some ds => if atomD a && ds.all atomD then some (.bool (n ^^ ds.any fun z => PyData.eqv z a)) else none
  | none => none
theorem ok_inF {n : Bool} : OpOk K (rIn K n) (inF n) := by
  intro S H x y a b d hS wa wb e Q q
  unfold inF at e
  cases h : seqD b with
  | none => rw [h] at e; cases e
  | some ds =>
    rw [h] at e
    simp only at e
    split at e
    · rename_i h2
      cases e
      rw [Bool.and_eq_true] at h2
      obtain ⟨p, vs, rfl, e2, e3⟩ := vw_seq wb h
      have e4 := DaAll.same (off_sub S H) ds e3
      refine ⟨p, vs, rfl, e2, atom_flat wa.da h2.1, atoms_flat e3 h2.2, q _ _ (same_refl _) ?_⟩
      rw [atoms_in wa.da h2.1 e4 h2.2]
      cases n
      · rw [Bool.false_xor]; exact .bl _
      · rw [Bool.true_xor]; exact .bl _
    · cases e
/-! items -/
theorem atI_da {H : Hp} {vs : List V} {ds : List PyData} (h : DaAll K H vs ds) {i : Int} {d : PyData} (e : atI ds i = some d) : ∃ x, atI vs i = some x ∧ Da K H x d := by
  unfold atI at e ⊢
  rw [daAll_len h]
  cases q : ixN ds.length i with
  | none => rw [q] at e; cases e
  | some j =>
    rw [q] at e
    exact daAll_get h e
def ixD (a b : PyData) : Option PyData :=
  match seqD a, b with
  | some ds, .int i => atI ds i
  | _, _ => none
theorem ok_ix : OpOk K (rIx K) ixD := by
  intro S H x y a b d hS wa wb e Q q
  unfold ixD at e
  split at e
  · rename_i ds i h
    rw [vw_int wb]
    cases a with
    | list es =>
      cases h
      obtain ⟨p, vs, rfl, e2, e3⟩ := vw_list wa
      obtain ⟨z, e4, e5⟩ := atI_da e3 e
      exact .inl ⟨p, vs, i, z, rfl, rfl, rd_sq e2, e4, q _ _ (same_refl _) e5⟩
    | tuple es =>
      cases h
      obtain ⟨p, vs, rfl, e2, e3⟩ := vw_tup wa
      obtain ⟨z, e4, e5⟩ := atI_da e3 e
      exact .inr (.inl ⟨p, vs, i, z, rfl, rfl, seqT (off_sub S H) e2, e4, q _ _ (same_refl _) e5⟩)
    | none => cases h
    | bool _ => cases h
    | int _ => cases h
    | str _ => cases h
    | dict _ => cases h
  · cases e
/-! slices -/
def cutL {α : Type} (xs : List α) (lo hi : Option Int) : List α := (xs.drop (HT.sIx xs.length 0 lo)).take (HT.sIx xs.length xs.length hi - HT.sIx xs.length 0 lo)
def cutD (a : PyData) (lo hi : Option Int) : Option PyData :=
  match a with
  | .list ds => some (.list (cutL ds lo hi))
  | .tuple ds => some (.tuple (cutL ds lo hi))
  | _ => none
theorem off_new {H H' : Hp} {S : Addr → Prop} (s : Same H H') : Same (off S H) (off S H') := off_mono (fun b z n => absurd z n) fun b o n h => s b o h
theorem hS_later {H H' : Hp} {S : Addr → Prop} (hS : ∀ q, S q → ∃ o, H q = some o ∧ NT o) (s : Same H H') : ∀ q, S q → ∃ o, H' q = some o ∧ NT o := fun q z => by
  obtain ⟨o, e, n⟩ := hS q z
  exact ⟨o, s _ _ e, n⟩
end
def PostO (K : PySem.W.Frag) (E : XK) (B : Addr → Prop) (σ : St) (H : Hp) (l : List Addr) (rs : Rs (Option Int)) (Q : Option Int → Hp → Prop) : Prop :=
  match rs with
  | .ok b env' => ∀ H', Rep K B σ H' env' l → Fr l H H' → Q b H'
  | .ex C f d => Exn K E B H l C f d
structure OkP (K : PySem.W.Frag) (E : XK) (t : TO) (f : M (Option Int)) : Prop where
  run : ∀ {B : Addr → Prop} {σ : St} {H : Hp} {env : En} {l : List Addr} {rs : Rs (Option Int)}, Rep K B σ H env l → f env = some rs → ∀ {Q : Option Int → Hp → Prop}, PostO K E B σ H l rs Q → t σ H Q
section
variable {K : PySem.W.Frag} {E : XK}
theorem OkP.seq {α : Type} {ta : TO} {fa : M (Option Int)} {g : Option Int → M α} (oa : OkP K E ta fa) {B : Addr → Prop} {σ : St} {H : Hp} {env : En} {l : List Addr} {rs : Rs α} (r : Rep K B σ H env l) (h : (M.bind fa g) env = some rs) {Q : Option Int → Hp → Prop}
    (hx : ∀ C f d, rs = .ex C f d → Exn K E B H l C f d) (hq : ∀ a e H', g a e = some rs → Rep K B σ H' e l → Fr l H H' → Q a H') : ta σ H Q := by
  rcases bind_some h with ⟨a, e, h1, h2⟩ | ⟨C, f, d, h1, h2⟩
  · exact oa.run r h1 (fun H' r' fr => hq a e H' h2 r' fr)
  · exact oa.run r h1 (hx C f d h2)
def poN : M (Option Int) := M.pure none
def asI : R → Option Int
  | .dat (.int i) => some i
  | _ => none
theorem asI_some {a : R} {i : Int} (h : asI a = some i) : a = .dat (.int i) := by
  unfold asI at h
  split at h
  · cases h; rfl
  · cases h
def poS (fa : M R) : M (Option Int) := M.bind fa fun a => M.bind (lift (asI a)) fun i => M.pure (some i)
theorem OkP.none : OkP K E tNoPart poN := by
  refine ⟨?_⟩
  intro B σ H env l rs rp h Q post
  cases h
  exact post H rp (Fr.refl _ _)
theorem OkP.some {t : TE} {fa : M R} (oa : OkE K E t fa) : OkP K E (tPart t) (poS fa) := by
  refine ⟨?_⟩
  intro B σ H env l rs rp h Q post
  refine oa.seq rp h (fun C f d e => by subst e; exact post) fun a e v1 H1 h1 r1 f1 q1 => ?_
  obtain ⟨i, h2, h3⟩ := lift_step h1
  cases h3
  rw [asI_some h2] at q1
  cases q1
  exact ⟨_, rfl, post H1 r1 f1⟩
def slD (fa : M R) (fl fh : M (Option Int)) : M R := M.bind fa fun a => M.bind fl fun lo => M.bind fh fun hi => M.bind (vw a) fun x => M.bind (lift (cutD x lo hi)) fun d => M.pure (.dat d)
end
/-! built-in calls -/
section
variable {X : Cx}
/-- xs + ys of lists that stand -/
def rCatL (K : PySem.W.Frag) : R2 := fun x y H Q => ∃ l b xs zs, x = .ref l ∧ y = .ref b ∧ SqL K H l xs ∧ SqL K H b zs ∧ xs.length + zs.length ≤ sizeLine ∧ ∀ p, H p = none → Q (.ref p) (upd H p (.lst (xs ++ zs)))
theorem op_catL : OpR X (binaryOp .Add) (rCatL X.K) := by
  intro pins s σ H x y v u Q I rx ry h
  obtain ⟨l, b, xs, zs, rfl, rfl, hH, hB, hz, q⟩ := h
  cases rx
  cases ry
  obtain ⟨its, r, e, z⟩ := I.list hH
  obtain ⟨its2, r2, e2, z2⟩ := I.list hB
  have hl := r.length
  have hl2 := r2.length
  obtain ⟨⟨cls, dd, data, sl⟩, ho, hc, n, hd⟩ := e.isList
  obtain ⟨⟨cls2, dd2, data2, sl2⟩, ho2, hc2, n2, hd2⟩ := e2.isList
  simp only at hc hd hc2 hd2
  subst hc hd hc2 hd2
  have ea : its.toArray ++ its2.toArray = (its ++ its2).toArray := by simp
  refine concat_meets ⟨_, ho, rfl⟩ ⟨_, ho2, rfl⟩ noFill_list_add seq_list_add PySem.F.slot_list_add PySem.F.entry_list_add (PySem.F.args_list_add_2 _ _) (PyProof.Rows.list_addW l b its.toArray its2.toArray n n2 dd dd2 sl sl2 (by rw [List.size_toArray, List.size_toArray]; omega)) ⟨ho, ho2, ?_⟩
  rw [ea]
  exact ⟨.ref _, _, I.lnew (t' := s.toks) (r.append r2) (by rw [List.length_append]; omega), rfl, q _ I.fresh⟩
end
section
variable {K : PySem.W.Frag}
def catD (a b : PyData) : Option PyData :=
  match a, b with
  | .list xs, .list ys => (sz (xs.length + ys.length)).map fun _ => .list (xs ++ ys)
  | _, _ => none
theorem ok_catL : OpOk K (rCatL K) catD := by
  intro S H x y a b d hS wa wb e Q q
  unfold catD at e
  split at e
  · obtain ⟨u, e1, e2⟩ := Option.map_eq_some_iff.mp e
    subst e2
    obtain ⟨p, vs, rfl, h2, h3⟩ := vw_list wa
    obtain ⟨p', vs', rfl, h2', h3'⟩ := vw_list wb
    refine ⟨p, p', vs, vs', rfl, rfl, h2, h2', by rw [daAll_len h3, daAll_len h3']; exact sz_ok e1, fun r hr => ?_⟩
    exact q _ _ (same_new hr _) (new_dp hS hr (daAll_append h3 h3')).1
  · cases e
def lenD (as : List PyData) : Option PyData :=
  match as with
  | [a] => (seqD a).map fun ds => .int ds.length
  | _ => none
theorem vwAll1 {S : Addr → Prop} {H : Hp} {xs : List V} {a : PyData} (h : VwAll K S H xs [a]) : ∃ x, xs = [x] ∧ Vw K S H x a := by
  cases h with | cons h t => cases t; exact ⟨_, rfl, h⟩
theorem vwAll2 {S : Addr → Prop} {H : Hp} {xs : List V} {a b : PyData} (h : VwAll K S H xs [a, b]) : ∃ x y, xs = [x, y] ∧ Vw K S H x a ∧ Vw K S H y b := by
  cases h with | cons h t => cases t with | cons h' t => cases t; exact ⟨_, _, rfl, h, h'⟩
theorem ok_len : CbOk K (fun xs H Q => ∃ p ys, xs = [.ref p] ∧ (SqL K H p ys ∨ SqT K H p ys) ∧ Q (.int ys.length) H) lenD := by
  intro S H xs as d hS w e Q q
  unfold lenD at e
  split at e
  · obtain ⟨ds, e1, e2⟩ := Option.map_eq_some_iff.mp e
    subst e2
    obtain ⟨x, rfl, wx⟩ := vwAll1 w
    obtain ⟨p, vs, rfl, h2, h3⟩ := vw_seq wx e1
    exact ⟨p, vs, rfl, h2, q _ _ (same_refl _) (by rw [daAll_len h3]; exact .int _)⟩
  · cases e
def tupleD (as : List PyData) : Option PyData :=
  match as with
  | [a] => (seqD a).map fun ds => .tuple ds
  | _ => none
theorem ok_tuple : CbOk K (rTupW K) tupleD := by
  intro S H xs as d hS w e Q q
  unfold tupleD at e
  split at e
  · obtain ⟨ds, e1, e2⟩ := Option.map_eq_some_iff.mp e
    subst e2
    obtain ⟨x, rfl, wx⟩ := vwAll1 w
    obtain ⟨p, vs, rfl, h2, h3⟩ := vw_seqP wx e1
    exact ⟨p, vs, rfl, h2, fun r H' s hr => q _ _ s (.tup (off_P (hS_later hS s) hr) (DaAll.same (off_new s) _ h3))⟩
  · cases e
def listD (as : List PyData) : Option PyData :=
  match as with
  | [a] => (seqD a).map fun ds => .list ds
  | _ => none
theorem ok_list : CbOk K (fun xs H Q => ∃ p ys, xs = [.ref p] ∧ (SqL K H p ys ∨ SqT K H p ys) ∧ ∀ l, H l = none → Q (.ref l) (upd H l (.lst ys))) listD := by
  intro S H xs as d hS w e Q q
  unfold listD at e
  split at e
  · obtain ⟨ds, e1, e2⟩ := Option.map_eq_some_iff.mp e
    subst e2
    obtain ⟨x, rfl, wx⟩ := vwAll1 w
    obtain ⟨p, vs, rfl, h2, h3⟩ := vw_seq wx e1
    exact ⟨p, vs, rfl, h2, fun r hr => q _ _ (same_new hr _) (new_dp hS hr h3).1⟩
  · cases e
def absD (as : List PyData) : Option PyData :=
  match as with
  | [.int i] => some (.int (if i < 0 then -i else i))
  | _ => none
theorem ok_abs : CbOk K (fun xs H Q => ∃ i, xs = [.int i] ∧ Q (.int (if i < 0 then -i else i)) H) absD := by
  intro S H xs as d hS w e Q q
  unfold absD at e
  split at e
  · cases e
    obtain ⟨x, rfl, wx⟩ := vwAll1 w
    exact ⟨_, by rw [vw_int wx], q _ _ (same_refl _) (.int _)⟩
  · cases e
def minD (as : List PyData) : Option PyData :=
  match as with
  | [.int i, .int j] => some (.int (if j < i then j else i))
  | _ => none
theorem ok_min : CbOk K (fun xs H Q => ∃ i j, xs = [.int i, .int j] ∧ Q (.int (if j < i then j else i)) H) minD := by
  intro S H xs as d hS w e Q q
  unfold minD at e
  split at e
  · cases e
    obtain ⟨x, y, rfl, wx, wy⟩ := vwAll2 w
    exact ⟨_, _, by rw [vw_int wx, vw_int wy], q _ _ (same_refl _) (.int _)⟩
  · cases e
def maxD (as : List PyData) : Option PyData :=
  match as with
  | [.int i, .int j] => some (.int (if j > i then j else i))
  | _ => none
theorem ok_max : CbOk K (fun xs H Q => ∃ i j, xs = [.int i, .int j] ∧ Q (.int (if j > i then j else i)) H) maxD := by
  intro S H xs as d hS w e Q q
  unfold maxD at e
  split at e
  · cases e
    obtain ⟨x, y, rfl, wx, wy⟩ := vwAll2 w
    exact ⟨_, _, by rw [vw_int wx, vw_int wy], q _ _ (same_refl _) (.int _)⟩
  · cases e
def intD (as : List PyData) : Option PyData :=
  match as with
  | [.int i] => some (.int i)
  | [.bool k] => some (.int (if k then 1 else 0))
  | _ => none
theorem ok_int : CbOk K (fun xs H Q => (∃ i, xs = [.int i] ∧ Q (.int i) H) ∨ ∃ k, xs = [.bl k] ∧ Q (.int (if k then 1 else 0)) H) intD := by
  intro S H xs as d hS w e Q q
  unfold intD at e
  split at e
  · cases e
    obtain ⟨x, rfl, wx⟩ := vwAll1 w
    exact .inl ⟨_, by rw [vw_int wx], q _ _ (same_refl _) (.int _)⟩
  · cases e
    obtain ⟨x, rfl, wx⟩ := vwAll1 w
    exact .inr ⟨_, by rw [vw_bool wx], q _ _ (same_refl _) (.int _)⟩
  · cases e
/-- a list of truth values -/
def boolsD : List PyData → Option (List Bool)
  | [] => some []
  | .bool b :: r => (boolsD r).map (b :: ·)
  | _ :: _ => none
theorem bools_da {H : Hp} : ∀ {vs : List V} {ds : List PyData} {bs : List Bool}, DaAll K H vs ds → boolsD ds = some bs → vs = bs.map V.bl
  | _, _, bs, .nil, e => by cases e; rfl
  | _, _, bs, .cons (d := .bool b) h t, e => by
    obtain ⟨q, e1, e2⟩ := Option.map_eq_some_iff.mp (show (boolsD _).map (b :: ·) = some bs from e)
    subst e2
    cases h
    rw [bools_da t e1]
    rfl
  | _, _, bs, .cons (d := .int b) h t, e => by cases e
  | _, _, bs, .cons (d := .none) h t, e => by cases e
  | _, _, bs, .cons (d := .str b) h t, e => by cases e
  | _, _, bs, .cons (d := .list b) h t, e => by cases e
  | _, _, bs, .cons (d := .tuple b) h t, e => by cases e
  | _, _, bs, .cons (d := .dict b) h t, e => by cases e
def intsD : List PyData → Option (List Int)
  | [] => some []
  | .int b :: r => (intsD r).map (b :: ·)
  | _ :: _ => none
theorem ints_da {H : Hp} : ∀ {vs : List V} {ds : List PyData} {bs : List Int}, DaAll K H vs ds → intsD ds = some bs → vs = bs.map V.int
  | _, _, bs, .nil, e => by cases e; rfl
  | _, _, bs, .cons (d := .int b) h t, e => by
    obtain ⟨q, e1, e2⟩ := Option.map_eq_some_iff.mp (show (intsD _).map (b :: ·) = some bs from e)
    subst e2
    cases h
    rw [ints_da t e1]
    rfl
  | _, _, bs, .cons (d := .bool b) h t, e => by cases e
  | _, _, bs, .cons (d := .none) h t, e => by cases e
  | _, _, bs, .cons (d := .str b) h t, e => by cases e
  | _, _, bs, .cons (d := .list b) h t, e => by cases e
  | _, _, bs, .cons (d := .tuple b) h t, e => by cases e
  | _, _, bs, .cons (d := .dict b) h t, e => by cases e
theorem intsD_map (ns : List Int) : intsD (ns.map PyData.int) = some ns := by
  induction ns with
  | nil => rfl
  | cons n r ih => show (intsD (r.map PyData.int)).map (n :: ·) = _; rw [ih]; rfl
theorem boolsD_map (ns : List Bool) : boolsD (ns.map PyData.bool) = some ns := by
  induction ns with
  | nil => rfl
  | cons n r ih => show (boolsD (r.map PyData.bool)).map (n :: ·) = _; rw [ih]; rfl
theorem da_ints {H : Hp} : ∀ ns : List Int, DaAll K H (ns.map V.int) (ns.map PyData.int)
  | [] => .nil
  | n :: r => .cons (.int n) (da_ints r)
def allD (as : List PyData) : Option PyData :=
  match as with
  | [.list ds] => (boolsD ds).map fun bs => .bool (bs.all id)
  | _ => none
theorem ok_all : CbOk K (rAll K) allD := by
  intro S H xs as d hS w e Q q
  unfold allD at e
  split at e
  · obtain ⟨bs, e1, e2⟩ := Option.map_eq_some_iff.mp e
    subst e2
    obtain ⟨x, rfl, wx⟩ := vwAll1 w
    obtain ⟨p, vs, rfl, h2, h3⟩ := vw_list wx
    rw [bools_da h3 e1] at h2
    exact ⟨p, bs, rfl, rd_sq h2, q _ _ (same_refl _) (.bl _)⟩
  · cases e
/-- numbers in order -/
def sortI (ns : List Int) : List Int := ns.mergeSort (fun a b => decide (a ≤ b))
theorem sort_uniq {a b : List Int} (p : a.Perm b) (ha : a.Pairwise (· ≤ ·)) (hb : b.Pairwise (· ≤ ·)) : a = b := p.eq_of_pairwise (fun x y _ _ h1 h2 => Int.le_antisymm h1 h2) ha hb
theorem sortI_perm (ns : List Int) : (sortI ns).Perm ns := List.mergeSort_perm ..
theorem sortI_pw (ns : List Int) : (sortI ns).Pairwise (· ≤ ·) := by
  have h := List.pairwise_mergeSort (le := fun a b : Int => decide (a ≤ b)) (fun a b c h1 h2 => decide_eq_true (Int.le_trans (of_decide_eq_true h1) (of_decide_eq_true h2))) (fun a b => by
    rw [Bool.or_eq_true]
    exact (Int.le_total a b).imp decide_eq_true decide_eq_true) ns
  exact h.imp fun z => of_decide_eq_true z
end
end Ov
set_option Elab.async false
set_option linter.all false
set_option maxRecDepth 100000
set_option maxHeartbeats 4000000
namespace Ov
open PySem L2
/-! values that may be owned, statements -/
structure Fr2 (l : List Addr) (H : Hp) (l' : List Addr) (H' : Hp) : Prop where
  fr : Fr l H H'
  sub : ∀ b ∈ l', b ∈ l ∨ H b = none
theorem Fr2.refl (l : List Addr) (H : Hp) : Fr2 l H l H := ⟨Fr.refl _ _, fun _ z => .inl z⟩
theorem Fr2.of {l : List Addr} {H H' : Hp} (f : Fr l H H') : Fr2 l H l H' := ⟨f, fun _ z => .inl z⟩
theorem Fr2.trans {l l1 l2 : List Addr} {H H1 H2 : Hp} (a : Fr2 l H l1 H1) (b : Fr2 l1 H1 l2 H2) : Fr2 l H l2 H2 := by
  refine ⟨fun c o n h => b.fr c o (fun z => ?_) (a.fr c o n h), fun c z => ?_⟩
  · rcases a.sub c z with z | z
    · exact n z
    · rw [h] at z; cases z
  · rcases b.sub c z with z | z
    · exact a.sub c z
    · by_cases m : c ∈ l
      · exact .inl m
      · cases q : H c with
        | none => exact .inr rfl
        | some o => rw [a.fr c o m q] at z; cases z
section
variable {K : PySem.W.Frag} {E : XK}
theorem Exn.later2 {B : Addr → Prop} {H H1 : Hp} {l l1 : List Addr} {C : Addr} {f : Str} {d : PyData} (x : Exn K E B H l C f d) (s : Fr2 l H l1 H1) : Exn K E B H1 l1 C f d :=
  ⟨fun hf dx H' v fr n h q => x.1 hf dx H' v (s.trans (Fr2.of fr)).fr n h q, fun hf H' fr => x.2 hf H' (s.trans (Fr2.of fr)).fr⟩
def PostW (K : PySem.W.Frag) (E : XK) (B : Addr → Prop) (σ : St) (H : Hp) (l : List Addr) (rs : Rs Wv) (Q : VK) : Prop :=
  match rs with
  | .ok w env' => ∀ v H' lw, Rep K (un B lw) σ H' env' l → Fr l H H' → RpW K H' (off (un (un B lw) l) H') v w lw → lw.Nodup → (∀ b ∈ lw, H b = none) → Q v H'
  | .ex C f d => Exn K E B H l C f d
structure OkW (K : PySem.W.Frag) (E : XK) (t : TE) (f : M Wv) : Prop where
  run : ∀ {B : Addr → Prop} {σ : St} {H : Hp} {env : En} {l : List Addr} {rs : Rs Wv}, Rep K B σ H env l → f env = some rs → ∀ {Q : VK}, PostW K E B σ H l rs Q → t σ H Q
theorem PostW.exn {B : Addr → Prop} {σ : St} {H : Hp} {l : List Addr} {rs : Rs Wv} {Q : VK} (h : PostW K E B σ H l rs Q) : ∀ C f d, rs = .ex C f d → Exn K E B H l C f d := fun C f d e => by subst e; exact h
theorem OkW.seq {α : Type} {ta : TE} {fa : M Wv} {g : Wv → M α} (oa : OkW K E ta fa) {B : Addr → Prop} {σ : St} {H : Hp} {env : En} {l : List Addr} {rs : Rs α} (r : Rep K B σ H env l) (h : (M.bind fa g) env = some rs) {Q : VK}
    (hx : ∀ C f d, rs = .ex C f d → Exn K E B H l C f d) (hq : ∀ a e v H' lw, g a e = some rs → Rep K (un B lw) σ H' e l → Fr l H H' → RpW K H' (off (un (un B lw) l) H') v a lw → lw.Nodup → (∀ b ∈ lw, H b = none) → Q v H') : ta σ H Q := by
  rcases bind_some h with ⟨a, e, h1, h2⟩ | ⟨C, f, d, h1, h2⟩
  · exact oa.run r h1 (fun v H' lw r' fr q n1 n2 => hq a e v H' lw h2 r' fr q n1 n2)
  · exact oa.run r h1 (hx C f d h2)
theorem un_nil (B : Addr → Prop) : un B [] = B := by
  funext b
  exact propext ⟨fun z => z.elim id (fun z => by cases z), .inl⟩
theorem un_app (B : Addr → Prop) (a b : List Addr) : un (un B a) b = un B (a ++ b) := by
  funext c
  exact propext ⟨fun z => z.elim (fun z => z.imp id (List.mem_append_left _)) fun z => .inr (List.mem_append_right _ z), fun z => z.elim (fun z => .inl (.inl z)) fun z => (List.mem_append.mp z).elim (fun z => .inl (.inr z)) .inr⟩
def toW : R → Option Wv
  | .dat d => some (.dat d)
  | .exc C f d => some (.exc C f d)
  | .slot _ => none
/-- a value that is no list of one's own -/
def pl (f : M R) : M Wv := M.bind f fun r => lift (toW r)
theorem OkE.w {t : TE} {f : M R} (o : OkE K E t f) : OkW K E t (pl f) := by
  refine ⟨?_⟩
  intro B σ H env l rs rp h Q post
  refine o.seq rp h post.exn fun a e v H' h1 r1 f1 q1 => ?_
  obtain ⟨w, h2, h3⟩ := lift_some h1
  subst h3
  refine post v H' [] (by rw [un_nil]; exact r1) f1 ?_ List.nodup_nil (fun _ z => by cases z)
  rw [un_nil]
  cases a with
  | dat d => cases h2; exact ⟨rfl, q1⟩
  | slot i => cases h2
  | exc C f d => cases h2; exact ⟨rfl, q1⟩
/-- a list of one's own as data from here on -/
def itD : It1 → PyData
  | .dat d => d
  | .own ds => .list ds
def ofW : Wv → Option R
  | .dat d => some (.dat d)
  | .own xs => some (.dat (.list (xs.map itD)))
  | .exc C f d => some (.exc C f d)
  | .dct _ => none
  | .lin _ _ _ => none
  | .dci kvs => some (.dat (dcD kvs))
  | .dts _ => none
  | .pin _ _ => none
  | .dtn _ => none
  | .dtd _ => none
  | .nd _ => none
  | .ndd _ => none
  | .lkd _ => none
  | .dtk [] => none
  | .dtk (z :: r) => some (.dat (dkD (z :: r)))
theorem rp1_free {H G G' : Hp} {v : V} {x : It1} {l : List Addr} (s : Same G G') (k : ∀ b ∈ l, ∀ us, H b = some (.lst us) → G' b = some (.lst us)) (h : Rp1 K H G v x l) : Da K G' v (itD x) := by
  cases x with
  | dat d => exact Da.same s d h.2
  | own ds =>
    obtain ⟨q, us, rfl, rfl, e3, e4⟩ := h
    exact .lst (SqL.of (k q (List.mem_cons_self ..) us e3)) (DaAll.same s ds e4)
theorem rp1s_free {H G G' : Hp} (s : Same G G') : ∀ {vs : List V} {xs : List It1} {l : List Addr}, (∀ b ∈ l, ∀ us, H b = some (.lst us) → G' b = some (.lst us)) → Rp1s K H G vs xs l → DaAll K G' vs (xs.map itD)
  | [], [], l, _, h => .nil
  | v :: vs, x :: xs, l, k, ⟨a, b, e, h1, h2⟩ => .cons (rp1_free s (fun c z => k c (by rw [e]; exact List.mem_append_left _ z)) h1) (rp1s_free s (fun c z => k c (by rw [e]; exact List.mem_append_right _ z)) h2)
  | [], _ :: _, _, _, h => h.elim
  | _ :: _, [], _, _, h => h.elim
theorem rpW_free {H G G' : Hp} {σ : St} {v : V} {w : Wv} {r : R} {l : List Addr} (hr : ofW w = some r) (s : Same G G') (k : ∀ b ∈ l, ∀ us, H b = some us → G' b = some us) (h : RpW K H G v w l) : RpR K G' σ v r := by
  cases w with
  | dct _ => cases hr
  | lin _ _ _ => cases hr
  | dci kvs =>
    cases hr
    obtain ⟨p, rfl, rfl, e3⟩ := h
    exact .dctI kvs rfl (k p (List.mem_cons_self ..) _ e3)
  | dts ks => cases hr
  | pin _ _ => cases hr
  | dtn _ => cases hr
  | dtd _ => cases hr
  | nd _ => cases hr
  | ndd _ => cases hr
  | lkd _ => cases hr
  | dtk kvs =>
    cases kvs with
    | nil => cases hr
    | cons z r =>
      cases hr
      obtain ⟨p, rfl, rfl, e3⟩ := h
      exact .dtk (z :: r) (by simp) rfl (k p (List.mem_cons_self ..) _ e3)
  | dat d => cases hr; exact Da.same s d h.2
  | own xs =>
    cases hr
    obtain ⟨p, vs, b, rfl, rfl, e3, e4⟩ := h
    exact .lst (SqL.of (k p (List.mem_cons_self ..) _ e3)) (rp1s_free s (fun c z us => k c (List.mem_cons_of_mem _ z) (.lst us)) e4)
  | exc C f d =>
    cases hr
    obtain ⟨_, a, u, e1, e2, e3⟩ := h
    exact ⟨a, u, e1, e2.same s, fun z => Da.same s d (e3 z)⟩
def fz (f : M Wv) : M R := M.bind f fun w => lift (ofW w)
theorem OkW.e {t : TE} {f : M Wv} (o : OkW K E t f) : OkE K E t (fz f) := by
  refine ⟨?_⟩
  intro B σ H env l rs rp h Q post
  refine o.seq rp h post.exn fun a e v H' lw h1 r1 f1 q1 nd fr => ?_
  obtain ⟨r, h2, h3⟩ := lift_some h1
  subst h3
  refine post v H' (r1.less fun _ z => .inl z) f1 (rpW_free h2 (off_mono (fun b z n => absurd (z.elim (fun z => .inl (.inl z)) .inr) n) fun b o n e => e) (fun b z us e => ?_) q1)
  refine (off_ne fun y => ?_).trans e
  exact rp.fresh (fr b z) y
inductive Fl where
  | nx | bk | ct
  | rt (w : Wv)
def PostS (K : PySem.W.Frag) (E : XK) (bx : Nat) (B : Addr → Prop) (σ : St) (H : Hp) (l : List Addr) (rs : Rs Fl) (D : Ends) : Prop :=
  match rs with
  | .ok .nx env' => ∀ σ' H' l', Rep K B σ' H' env' l' → Fr2 l H l' H' → (∀ z : Fin bx, σ'[z.1]? = σ[z.1]?) → D.nx σ' H'
  | .ok .bk env' => ∀ σ' H' l', Rep K B σ' H' env' l' → Fr2 l H l' H' → (∀ z : Fin bx, σ'[z.1]? = σ[z.1]?) → D.bk σ' H'
  | .ok .ct env' => ∀ σ' H' l', Rep K B σ' H' env' l' → Fr2 l H l' H' → (∀ z : Fin bx, σ'[z.1]? = σ[z.1]?) → D.ct σ' H'
  | .ok (.rt w) env' => ∀ v σ' H' l' lw, Rep K (un B lw) σ' H' env' l' → Fr2 l H (l' ++ lw) H' → (∀ z : Fin bx, σ'[z.1]? = σ[z.1]?) → RpW K H' (off (un (un B lw) l') H') v w lw → lw.Nodup → (∀ b ∈ lw, b ∉ l' ∧ ¬ B b) → D.rt v H'
  | .ex C f d => Exn K E B H l C f d
structure OkS (K : PySem.W.Frag) (E : XK) (bx : Nat) (t : TS) (f : M Fl) : Prop where
  run : ∀ {B : Addr → Prop} {σ : St} {H : Hp} {env : En} {l : List Addr} {rs : Rs Fl}, Rep K B σ H env l → f env = some rs → ∀ {D : Ends}, PostS K E bx B σ H l rs D → t D σ H
variable {bx : Nat}
theorem PostS.exn {B : Addr → Prop} {σ : St} {H : Hp} {l : List Addr} {rs : Rs Fl} {D : Ends} (h : PostS K E bx B σ H l rs D) : ∀ C f d, rs = .ex C f d → Exn K E B H l C f d := fun C f d e => by subst e; exact h
theorem PostS.later {B : Addr → Prop} {σ σ1 : St} {H H1 : Hp} {l l1 : List Addr} {rs : Rs Fl} {D : Ends} (h : PostS K E bx B σ H l rs D) (s : Fr2 l H l1 H1) (e0 : ∀ z : Fin bx, σ1[z.1]? = σ[z.1]?) : PostS K E bx B σ1 H1 l1 rs D := by
  cases rs with
  | ex C f d => exact Exn.later2 h s
  | ok fl env =>
    cases fl with
    | nx => exact fun σ' H' l' r f b => h σ' H' l' r (s.trans f) fun z => (b z).trans (e0 z)
    | bk => exact fun σ' H' l' r f b => h σ' H' l' r (s.trans f) fun z => (b z).trans (e0 z)
    | ct => exact fun σ' H' l' r f b => h σ' H' l' r (s.trans f) fun z => (b z).trans (e0 z)
    | rt w => exact fun v σ' H' l' lw r f b => h v σ' H' l' lw r (s.trans f) fun z => (b z).trans (e0 z)
def nxt : M Fl := M.pure .nx
theorem OkS.nil : OkS K E bx tNext nxt := by
  refine ⟨?_⟩
  intro B σ H env l rs rp h D post
  cases h
  exact post σ H l rp (Fr2.refl _ _) fun _ => rfl
def thenS (f g : M Fl) : M Fl := M.bind f fun fl => match fl with
  | .nx => g
  | o => M.pure o
theorem OkS.cut {t u : TS} {f g : M Fl} (o : OkS K E bx t f) (o' : OkS K E bx u g) : OkS K E bx (Evl.tCut t u) (thenS f g) := by
  refine ⟨?_⟩
  intro B σ H env l rs rp h D post
  rcases bind_some h with ⟨fl, e, h1, h2⟩ | ⟨C, g', d, h1, h2⟩
  · cases fl with
    | nx => exact ⟨fun σ' H' => ∃ l', Rep K B σ' H' e l' ∧ Fr2 l H l' H' ∧ (∀ z : Fin bx, σ'[z.1]? = σ[z.1]?), o.run rp h1 (fun σ' H' l' r f b => ⟨l', r, f, b⟩), fun σ' H' ⟨l', r, f, b⟩ => o'.run r h2 (post.later f b)⟩
    | bk => cases h2; exact ⟨fun _ _ => False, o.run rp h1 post, fun _ _ z => z.elim⟩
    | ct => cases h2; exact ⟨fun _ _ => False, o.run rp h1 post, fun _ _ z => z.elim⟩
    | rt w => cases h2; exact ⟨fun _ _ => False, o.run rp h1 post, fun _ _ z => z.elim⟩
  · subst h2; exact ⟨fun _ _ => False, o.run rp h1 post, fun _ _ z => z.elim⟩
def exprS (f : M R) : M Fl := M.bind f fun _ => M.pure .nx
theorem OkS.expr {t : TE} {f : M R} (o : OkE K E t f) : OkS K E bx (tDrop t) (exprS f) := by
  refine ⟨?_⟩
  intro B σ H env l rs rp h D post
  refine o.seq rp h post.exn fun a e v H' h1 r1 f1 q1 => ?_
  cases h1
  exact post σ H' l r1 (Fr2.of f1) fun _ => rfl
def retS (f : M Wv) : M Fl := M.bind f fun w => M.pure (.rt w)
theorem OkS.ret {t : TE} {f : M Wv} (o : OkW K E t f) : OkS K E bx (tRet t) (retS f) := by
  refine ⟨?_⟩
  intro B σ H env l rs rp h D post
  refine o.seq rp h post.exn fun a e v H' lw h1 r1 f1 q1 nd fr => ?_
  cases h1
  exact post v σ H' l lw r1 ⟨f1, fun b z => (List.mem_append.mp z).imp id (fr b)⟩ (fun _ => rfl) q1 nd fun b z => ⟨fun y => rp.fresh (fr b z) (.inr y), fun y => rp.fresh (fr b z) (.inl y)⟩
def retN : M Fl := M.pure (.rt (.dat .none))
/-- the list of slot i leaves -/
def moveS (i : Nat) : M Fl := fun env =>
  match env[i]? with
  | some (some (.own xs)) => some (.ok (.rt (.own xs)) (env.set i none))
  | _ => none
theorem OkS.move (i : Nat) : OkS K E bx (tRet (tVar i)) (moveS i) := by
  refine ⟨?_⟩
  intro B σ H env l rs rp h D post
  unfold moveS at h
  split at h
  · rename_i xs hx
    cases h
    obtain ⟨s, a, lx, ly, q1, q2, ⟨v, q3, q4⟩, q5⟩ := rp.rp.focus hx
    subst q3
    have ev : un (un B a) (lx ++ ([] ++ ly)) = un B l := by
      rw [un_app, q2]
      funext b
      refine propext ⟨fun z => z.imp id fun z => ?_, fun z => z.imp id fun z => ?_⟩
      · rcases List.mem_append.mp z with z | z
        · exact List.mem_append_right _ (List.mem_append_left _ z)
        · rcases List.mem_append.mp z with z | z
          · exact List.mem_append_left _ z
          · exact List.mem_append_right _ (List.mem_append_right _ (by simpa using z))
      · rcases List.mem_append.mp z with z | z
        · exact List.mem_append_right _ (List.mem_append_left _ z)
        · rcases List.mem_append.mp z with z | z
          · exact List.mem_append_left _ z
          · exact List.mem_append_right _ (List.mem_append_right _ (by simpa using z))
    have nd := rp.nd
    rw [q2] at nd
    obtain ⟨n1, n2, n3⟩ := List.nodup_append.mp nd
    obtain ⟨n4, n5, n6⟩ := List.nodup_append.mp n2
    have e : σ.set i (some v) = σ := by
      apply List.ext_getElem?
      intro j
      by_cases z : i = j
      · subst z; rw [List.getElem?_set_self (List.getElem?_eq_some_iff.mp q1).1, q1]
      · rw [List.getElem?_set_ne z]
    have r' : Rep K (un B a) σ H (env.set i none) (lx ++ ([] ++ ly)) := by
      refine ⟨?_, ?_, ?_, ?_⟩
      · rw [ev]
        have := q5 (H' := H) (G' := off (un B l) H) (s' := some v) (e' := none) (a' := []) (fun _ _ z => z) (fun _ _ => rfl) (fun _ _ => rfl) rfl
        rw [e] at this
        exact this
      · rw [List.nil_append]
        exact List.nodup_append.mpr ⟨n1, n5, fun x hx y hy => n3 x hx y (List.mem_append_right _ hy)⟩
      · intro b z y
        rw [List.nil_append] at z
        rcases y with y | y
        · refine rp.out b ?_ y
          rw [q2]
          exact (List.mem_append.mp z).elim (List.mem_append_left _) fun z => List.mem_append_right _ (List.mem_append_right _ z)
        · rcases List.mem_append.mp z with z | z
          · exact n3 b z b (List.mem_append_left _ y) rfl
          · exact n6 b y b z rfl
      · intro b z
        refine rp.tl b (z.imp id fun z => ?_)
        rw [q2]
        exact List.mem_append_right _ (List.mem_append_left _ z)
    refine ⟨v, q1, post v σ H (lx ++ ([] ++ ly)) a r' ⟨Fr.refl _ _, fun b z => .inl ?_⟩ (fun _ => rfl) (by rw [ev]; exact q4) n4 fun b z => ⟨fun y => ?_, fun y => ?_⟩⟩
    · rw [q2]
      rcases List.mem_append.mp z with z | z
      · rw [List.nil_append] at z
        exact (List.mem_append.mp z).elim (List.mem_append_left _) fun z => List.mem_append_right _ (List.mem_append_right _ z)
      · exact List.mem_append_right _ (List.mem_append_left _ z)
    · rw [List.nil_append] at y
      rcases List.mem_append.mp y with y | y
      · exact n3 b y b (List.mem_append_left _ z) rfl
      · exact n6 b z b y rfl
    · exact rp.out b (by rw [q2]; exact List.mem_append_right _ (List.mem_append_left _ z)) y
  · cases h
def ifS (c : M Bool) (f g : M Fl) : M Fl := M.bind c fun b => if b = true then f else g
theorem OkS.ife {c : TT} {t u : TS} {fc : M Bool} {f g : M Fl} (oc : OkT K E c fc) (o : OkS K E bx t f) (o' : OkS K E bx u g) : OkS K E bx (tIfS c t u) (ifS fc f g) := by
  refine ⟨?_⟩
  intro B σ H env l rs rp h D post
  refine oc.seq rp h post.exn fun b e H1 h1 r1 f1 => ?_
  cases b with
  | true => exact iteT (o.run r1 (by simpa using h1) (post.later (Fr2.of f1) fun _ => rfl))
  | false => exact iteF (o'.run r1 (by simpa using h1) (post.later (Fr2.of f1) fun _ => rfl))
/-! stores to names -/
theorem Rep.put {B : Addr → Prop} {σ : St} {H : Hp} {env : En} {l lw : List Addr} {i : Nat} {v : V} {w : Wv} (r : Rep K (un B lw) σ H env l) (hi : i < env.length) (h : RpW K H (off (un (un B lw) l) H) v w lw) (nd : lw.Nodup) (hw : ∀ b ∈ lw, b ∉ l ∧ ¬ B b) :
    ∃ l', Rep K B (σ.set i (some v)) H (env.set i (some w)) l' ∧ ∀ b ∈ l', b ∈ l ∨ b ∈ lw := by
  obtain ⟨s, a, lx, ly, q1, q2, q3, q5⟩ := r.rp.focus (List.getElem?_eq_getElem hi)
  have nd0 := r.nd
  rw [q2] at nd0
  obtain ⟨n1, n2, n3⟩ := List.nodup_append.mp nd0
  obtain ⟨n4, n5, n6⟩ := List.nodup_append.mp n2
  have mem : ∀ b ∈ lx ++ (lw ++ ly), b ∈ l ∨ b ∈ lw := fun b z => by
    rw [q2]
    rcases List.mem_append.mp z with z | z
    · exact .inl (List.mem_append_left _ z)
    · rcases List.mem_append.mp z with z | z
      · exact .inr z
      · exact .inl (List.mem_append_right _ (List.mem_append_right _ z))
  have sub : Same (off (un (un B lw) l) H) (off (un B (lx ++ (lw ++ ly))) H) := off_mono (fun b z n => absurd (z.elim (fun z => .inl (.inl z)) fun z => (mem b z).elim .inr fun z => .inl (.inr z)) n) fun b o n e => e
  refine ⟨lx ++ (lw ++ ly), ⟨q5 sub (fun _ _ => rfl) (fun _ _ => rfl) ⟨v, rfl, h.mv sub fun _ _ => rfl⟩, ?_, ?_, fun b z => r.tb b (.inl z)⟩, mem⟩
  · have inl : ∀ b ∈ ly, b ∈ l := fun b z => by rw [q2]; exact List.mem_append_right _ (List.mem_append_right _ z)
    have inx : ∀ b ∈ lx, b ∈ l := fun b z => by rw [q2]; exact List.mem_append_left _ z
    refine List.nodup_append.mpr ⟨n1, List.nodup_append.mpr ⟨nd, n5, fun x hx y hy e => (hw x hx).1 (by rw [e]; exact inl y hy)⟩, fun x hx y hy e => ?_⟩
    rcases List.mem_append.mp hy with z | z
    · exact (hw y z).1 (by rw [← e]; exact inx x hx)
    · exact n3 x hx y (List.mem_append_right _ z) e
  · intro b z y
    rcases mem b z with z | z
    · exact r.out b z (.inl y)
    · exact (hw b z).2 y
def putM (i : Nat) (w : Wv) : M Unit := fun env => if i < env.length then some (.ok () (env.set i (some w))) else none
theorem putM_some {i : Nat} {w : Wv} {env : En} {rs : Rs Unit} (h : putM i w env = some rs) : i < env.length ∧ rs = .ok () (env.set i (some w)) := by
  unfold putM at h
  split at h
  · cases h; exact ⟨by assumption, rfl⟩
  · cases h
def setS (i : Nat) (f : M Wv) : M Fl := M.bind f fun w => M.bind (putM i w) fun _ => M.pure .nx
theorem putM_step {α : Type} {i : Nat} {w : Wv} {g : Unit → M α} {env : En} {rs : Rs α} (h : (M.bind (putM i w) g) env = some rs) : i < env.length ∧ g () (env.set i (some w)) = some rs := by
  rcases bind_some h with ⟨a, e, h1, h2⟩ | ⟨C, f, d, h1, h2⟩
  · obtain ⟨z, e1⟩ := putM_some h1
    cases e1
    exact ⟨z, h2⟩
  · obtain ⟨z, e1⟩ := putM_some h1
    cases e1
theorem OkS.set {i : Nat} {t : TE} {f : M Wv} (hb : ∀ z : Fin bx, i ≠ z.1) (o : OkW K E t f) : OkS K E bx (tAsg t (gName i)) (setS i f) := by
  refine ⟨?_⟩
  intro B σ H env l rs rp h D post
  refine o.seq rp h post.exn fun w e v H' lw h1 r1 f1 q1 nd fr => ?_
  obtain ⟨hi, h2⟩ := putM_step h1
  cases h2
  obtain ⟨l', r', m⟩ := r1.put hi q1 nd fun b z => ⟨fun y => rp.fresh (fr b z) (.inr y), fun y => rp.fresh (fr b z) (.inl y)⟩
  exact post _ H' l' r' ⟨f1, fun b z => (m b z).imp id (fr b)⟩ fun z => List.getElem?_set_ne (hb z)
end
end Ov
set_option Elab.async false
set_option linter.all false
set_option maxRecDepth 100000
set_option maxHeartbeats 4000000
namespace Ov
open PySem L2
/-! targets -/
def isOwn : Option (Option Wv) → Bool
  | some (some (.own _)) => true
  | some (some (.dct _)) => true
  | some (some (.lin _ _ _)) => true
  | some (some (.dci _)) => true
  | some (some (.dtk _)) => true
  | some (some (.dts _)) => true
  | some (some (.dtn _)) => true
  | some (some (.dtd _)) => true
  | _ => false
def free (env : En) (js : List Nat) : Prop := ∀ j ∈ js, isOwn env[j]? = false
section
variable {K : PySem.W.Frag} {E : XK} {bx : Nat}
structure OkG (K : PySem.W.Frag) (g : TG) (js : List Nat) (p : PyData → En → Option En) : Prop where
  run : ∀ {B : Addr → Prop} {σ : St} {H : Hp} {env env' : En} {l : List Addr} {v : V} {d : PyData}, Rep K B σ H env l → Da K (off (un B l) H) v d → p d env = some env' → ∀ {Q : St → Hp → Prop},
    (∀ σ' l', Rep K B σ' H env' l' → (∀ b ∈ l', b ∈ l) → (free env js → l' = l) → (∀ j, j ∉ js → σ'[j]? = σ[j]?) → Q σ' H) → g v σ H Q
  keep : ∀ {d : PyData} {env env' : En}, p d env = some env' → (∀ j, j ∉ js → env'[j]? = env[j]?) ∧ (∀ j ∈ js, isOwn env'[j]? = false) ∧ env'.length = env.length
structure OkGs (K : PySem.W.Frag) (g : TGs) (js : List Nat) (n : Nat) (p : List PyData → En → Option En) : Prop where
  run : ∀ {B : Addr → Prop} {σ : St} {H : Hp} {env env' : En} {l : List Addr} {vs : List V} {ds : List PyData}, Rep K B σ H env l → DaAll K (off (un B l) H) vs ds → p ds env = some env' → ∀ {Q : St → Hp → Prop},
    (∀ σ' l', Rep K B σ' H env' l' → (∀ b ∈ l', b ∈ l) → (free env js → l' = l) → (∀ j, j ∉ js → σ'[j]? = σ[j]?) → Q σ' H) → g vs σ H Q
  keep : ∀ {ds : List PyData} {env env' : En}, p ds env = some env' → (∀ j, j ∉ js → env'[j]? = env[j]?) ∧ (∀ j ∈ js, isOwn env'[j]? = false) ∧ env'.length = env.length
  len : ∀ {ds : List PyData} {env env' : En}, p ds env = some env' → ds.length = n
def gN (i : Nat) (d : PyData) (env : En) : Option En := if i < env.length then some (env.set i (some (.dat d))) else none
theorem Rep.putD {B : Addr → Prop} {σ : St} {H : Hp} {env : En} {l : List Addr} {i : Nat} {v : V} {d : PyData} (r : Rep K B σ H env l) (hi : i < env.length) (h : Da K (off (un B l) H) v d) :
    ∃ l', Rep K B (σ.set i (some v)) H (env.set i (some (.dat d))) l' ∧ (∀ b ∈ l', b ∈ l) ∧ (isOwn env[i]? = false → l' = l) := by
  obtain ⟨s, a, lx, ly, q1, q2, q3, q5⟩ := r.rp.focus (List.getElem?_eq_getElem hi)
  have nd0 := r.nd
  rw [q2] at nd0
  obtain ⟨n1, n2, n3⟩ := List.nodup_append.mp nd0
  obtain ⟨n4, n5, n6⟩ := List.nodup_append.mp n2
  have mem : ∀ b ∈ lx ++ ([] ++ ly), b ∈ l := fun b z => by
    rw [q2]
    rcases List.mem_append.mp z with z | z
    · exact List.mem_append_left _ z
    · exact List.mem_append_right _ (List.mem_append_right _ (by simpa using z))
  have sub : Same (off (un B l) H) (off (un B (lx ++ ([] ++ ly))) H) := off_mono (fun b z n => absurd (z.imp id (mem b)) n) fun b o n e => e
  refine ⟨lx ++ ([] ++ ly), ⟨q5 sub (fun _ _ => rfl) (fun _ _ => rfl) ⟨v, rfl, rfl, Da.same sub d h⟩, ?_, fun b z => r.out b (mem b z), r.tb⟩, mem, fun z => ?_⟩
  · rw [List.nil_append]
    exact List.nodup_append.mpr ⟨n1, n5, fun x hx y hy => n3 x hx y (List.mem_append_right _ hy)⟩
  · rw [List.getElem?_eq_getElem hi] at z
    have : a = [] := by
      cases q : env[i] with
      | none => rw [q] at q3; exact q3
      | some w =>
        rw [q] at q3 z
        obtain ⟨v', _, q3⟩ := q3
        cases w with
        | dat _ => exact q3.1
        | own xs => cases z
        | dct _ => cases z
        | lin _ _ _ => cases z
        | dci ks => cases z
        | dtk ks => cases z
        | dts ks => cases z
        | pin _ _ => exact q3.1
        | dtn _ => cases z
        | dtd _ => cases z
        | nd _ => exact q3.1
        | ndd _ => exact q3.1
        | lkd _ => exact q3.1
        | exc _ _ _ => exact q3.1
    rw [q2, this]
theorem OkG.name (i : Nat) : OkG K (gName i) [i] (gN i) := by
  refine ⟨?_, ?_⟩
  · intro B σ H env env' l v d r h e Q q
    unfold gN at e
    split at e
    · rename_i hi
      cases e
      obtain ⟨l', r', m, f⟩ := r.putD hi h
      exact q _ l' r' m (fun z => f (z i (List.mem_cons_self ..))) fun j n => List.getElem?_set_ne fun z => n (by rw [z]; exact List.mem_cons_self ..)
    · cases e
  · intro d env env' e
    unfold gN at e
    split at e
    · rename_i hi
      cases e
      refine ⟨fun j n => List.getElem?_set_ne fun z => n (by rw [z]; exact List.mem_cons_self ..), fun j z => ?_, List.length_set ..⟩
      cases List.mem_singleton.mp z
      rw [List.getElem?_set_self hi]
      rfl
    · cases e
def gsN (ds : List PyData) (env : En) : Option En :=
  match ds with
  | [] => some env
  | _ => none
def gsC (p : PyData → En → Option En) (q : List PyData → En → Option En) (ds : List PyData) (env : En) : Option En :=
  match ds with
  | d :: r => (p d env).bind fun e => q r e
  | [] => none
theorem OkGs.nil : OkGs K gNil [] 0 gsN := by
  refine ⟨?_, ?_, ?_⟩
  · intro B σ H env env' l vs ds r h e Q q
    unfold gsN at e
    split at e
    · cases e; cases h; exact ⟨rfl, q σ l r (fun _ z => z) (fun _ => rfl) fun _ _ => rfl⟩
    · cases e
  · intro ds env env' e
    unfold gsN at e
    split at e
    · cases e; exact ⟨fun _ _ => rfl, fun _ z => (by cases z), rfl⟩
    · cases e
  · intro ds env env' e
    unfold gsN at e
    split at e
    · rfl
    · cases e
theorem OkGs.cons {g : TG} {gs : TGs} {is js : List Nat} {n : Nat} {p : PyData → En → Option En} {q : List PyData → En → Option En} (o : OkG K g is p) (os : OkGs K gs js n q) : OkGs K (gCons g gs) (is ++ js) (n + 1) (gsC p q) := by
  have two : ∀ {d : PyData} {env e : En}, p d env = some e → free env (is ++ js) → free env is ∧ free e js := fun {d env e} h f => by
    obtain ⟨k1, k2, _⟩ := o.keep h
    refine ⟨fun j z => f j (List.mem_append_left _ z), fun j z => ?_⟩
    by_cases y : j ∈ is
    · exact k2 j y
    · rw [k1 j y]; exact f j (List.mem_append_right _ z)
  refine ⟨?_, ?_, ?_⟩
  · intro B σ H env env' l vs ds r h e Q k
    cases ds with
    | nil => cases e
    | cons d ds =>
      obtain ⟨e1, h1, h2⟩ := Option.bind_eq_some_iff.mp (show (p d env).bind (fun e => q ds e) = some env' from e)
      cases h with
      | cons ha hr =>
        refine ⟨_, _, rfl, o.run r ha h1 fun σ1 l1 r1 m1 f1 k1 => ?_⟩
        have sub : Same (off (un B l) H) (off (un B l1) H) := off_mono (fun b z n => absurd (z.imp id (m1 b)) n) fun b o n e => e
        refine os.run r1 (DaAll.same sub ds hr) h2 fun σ2 l2 r2 m2 f2 k2 => ?_
        refine k σ2 l2 r2 (fun b z => m1 b (m2 b z)) (fun f => ?_) fun j n => ?_
        · obtain ⟨f3, f4⟩ := two h1 f
          rw [f2 f4, f1 f3]
        · rw [k2 j fun z => n (List.mem_append_right _ z), k1 j fun z => n (List.mem_append_left _ z)]
  · intro ds env env' e
    cases ds with
    | nil => cases e
    | cons d ds =>
      obtain ⟨e1, h1, h2⟩ := Option.bind_eq_some_iff.mp (show (p d env).bind (fun e => q ds e) = some env' from e)
      obtain ⟨a1, a2, a3⟩ := o.keep h1
      obtain ⟨b1, b2, b3⟩ := os.keep h2
      refine ⟨fun j n => ?_, fun j z => ?_, b3.trans a3⟩
      · rw [b1 j fun z => n (List.mem_append_right _ z), a1 j fun z => n (List.mem_append_left _ z)]
      · by_cases y : j ∈ js
        · exact b2 j y
        · rw [b1 j y]
          exact a2 j ((List.mem_append.mp z).resolve_right y)
  · intro ds env env' e
    cases ds with
    | nil => cases e
    | cons d ds =>
      obtain ⟨e1, h1, h2⟩ := Option.bind_eq_some_iff.mp (show (p d env).bind (fun e => q ds e) = some env' from e)
      rw [List.length_cons, os.len h2]
def gT (q : List PyData → En → Option En) (d : PyData) (env : En) : Option En :=
  match d with
  | .tuple ds => q ds env
  | _ => none
theorem OkG.tup {gs : TGs} {js : List Nat} {n : Nat} {q : List PyData → En → Option En} (os : OkGs K gs js n q) : OkG K (gTup K n gs) js (gT q) := by
  refine ⟨?_, ?_⟩
  · intro B σ H env env' l v d r h e Q k
    cases d with
    | tuple ds =>
      cases h with
      | tup hq ha =>
        exact ⟨_, _, rfl, hq.off.sq, (daAll_len ha).trans (os.len (show q ds env = some env' from e)), os.run r ha e k⟩
    | none => cases e
    | bool _ => cases e
    | int _ => cases e
    | str _ => cases e
    | list _ => cases e
    | dict _ => cases e
  · intro d env env' e
    cases d with
    | tuple ds => exact os.keep (show q ds env = some env' from e)
    | none => cases e
    | bool _ => cases e
    | int _ => cases e
    | str _ => cases e
    | list _ => cases e
    | dict _ => cases e
def liftE (p : En → Option En) : M Unit := fun env => (p env).map fun e => .ok () e
theorem liftE_step {α : Type} {p : En → Option En} {g : Unit → M α} {env : En} {rs : Rs α} (h : (M.bind (liftE p) g) env = some rs) : ∃ e, p env = some e ∧ g () e = some rs := by
  rcases bind_some h with ⟨a, e, h1, h2⟩ | ⟨C, f, d, h1, h2⟩
  · obtain ⟨e', h3, h4⟩ := Option.map_eq_some_iff.mp (show (p env).map (fun e => Rs.ok () e) = _ from h1)
    cases h4
    exact ⟨e, h3, h2⟩
  · obtain ⟨e', h3, h4⟩ := Option.map_eq_some_iff.mp (show (p env).map (fun e => Rs.ok () e) = _ from h1)
    cases h4
def asD : R → Option PyData
  | .dat d => some d
  | _ => none
theorem asD_some {a : R} {d : PyData} (h : asD a = some d) : a = .dat d := by
  unfold asD at h
  split at h
  · cases h; rfl
  · cases h
/-- a, b = e -/
def unS (p : PyData → En → Option En) (f : M R) : M Fl := M.bind f fun r => M.bind (lift (asD r)) fun d => M.bind (liftE (p d)) fun _ => M.pure .nx
theorem OkS.unpack {g : TG} {js : List Nat} {p : PyData → En → Option En} {t : TE} {f : M R} (og : OkG K g js p) (hb : ∀ z : Fin bx, z.1 ∉ js) (o : OkE K E t f) : OkS K E bx (tAsg t g) (unS p f) := by
  refine ⟨?_⟩
  intro B σ H env l rs rp h D post
  refine o.seq rp h post.exn fun a e v H' h1 r1 f1 q1 => ?_
  obtain ⟨d, h2, h3⟩ := lift_step h1
  obtain ⟨e2, h4, h5⟩ := liftE_step h3
  cases h5
  rw [asD_some h2] at q1
  exact og.run r1 q1 h4 fun σ' l' r' m f k => post σ' H' l' r' ⟨f1, fun b z => .inl (m b z)⟩ fun z => k z.1 (hb z)
/-! what is walked -/
def PostI (K : PySem.W.Frag) (E : XK) (B : Addr → Prop) (σ : St) (H : Hp) (l : List Addr) (rs : Rs (List PyData)) (R : It → Hp → Prop) : Prop :=
  match rs with
  | .ok ds env' => ∀ J H' G Y, Rep K B σ H' env' l → Fr l H H' → Walk J ds.length G Y → (∀ H2, Fr l H' H2 → G H2) →
      (∀ i x H2 H3 d S, Fr l H' H2 → Y i H2 x H3 → ds[i]? = some d → (∀ b, S b → un B l b ∨ H' b = none) → (∀ b, S b → ∃ o, H2 b = some o ∧ NT o) → Same H2 H3 ∧ Da K (off S H3) x d) → R J H'
  | .ex C f d => Exn K E B H l C f d
structure OkI (K : PySem.W.Frag) (E : XK) (t : TI) (f : M (List PyData)) : Prop where
  run : ∀ {B : Addr → Prop} {σ : St} {H : Hp} {env : En} {l : List Addr} {rs : Rs (List PyData)}, Rep K B σ H env l → f env = some rs → ∀ {R : It → Hp → Prop}, PostI K E B σ H l rs R → t σ H R
theorem PostI.exn {B : Addr → Prop} {σ : St} {H : Hp} {l : List Addr} {rs : Rs (List PyData)} {R : It → Hp → Prop} (h : PostI K E B σ H l rs R) : ∀ C f d, rs = .ex C f d → Exn K E B H l C f d := fun C f d e => by subst e; exact h
theorem Da.walk {B S : Addr → Prop} {l : List Addr} {H H2 : Hp} {x : V} {d : PyData} (h : Da K (off (un B l) H) x d) (f : Fr l H H2) (hs : ∀ b, S b → un B l b ∨ H b = none) : Da K (off S H2) x d :=
  Da.same (off_mono (fun b z n => (hs b z).resolve_left n) fun b o n e => f b o (fun z => n (.inr z)) e) d h
/-! for -/
def forM (p : PyData → En → Option En) (body : M Fl) : List PyData → M Fl
  | [] => M.pure .nx
  | d :: ds => fun env =>
    match p d env with
    | none => none
    | some e =>
      match body e with
      | none => none
      | some (.ex C f d) => some (.ex C f d)
      | some (.ok .nx e2) => forM p body ds e2
      | some (.ok .ct e2) => forM p body ds e2
      | some (.ok .bk e2) => some (.ok .nx e2)
      | some (.ok (.rt w) e2) => some (.ok (.rt w) e2)
def forS (fi : M (List PyData)) (p : PyData → En → Option En) (body : M Fl) : M Fl := M.bind fi fun ds => forM p body ds
theorem OkS.for {wi : TI} {g : TG} {tb : TS} {fi : M (List PyData)} {js : List Nat} {p : PyData → En → Option En} {body : M Fl} (oi : OkI K E wi fi) (og : OkG K g js p) (hb : ∀ z : Fin bx, z.1 ∉ js) (ob : OkS K E bx tb body) : OkS K E bx (tFor wi g tb) (forS fi p body) := by
  refine ⟨?_⟩
  intro B σ H env l rs rp h D post
  rcases bind_some h with ⟨ds, e0, h1, h2⟩ | ⟨C, f, d, h1, h2⟩
  case inr => exact oi.run rp h1 (post.exn C f d h2)
  refine oi.run rp h1 ?_
  intro J H1 G Y r1 f1 wk hG hY
  have post1 := post.later (Fr2.of f1) (σ1 := σ) fun _ => rfl
  refine for_it wk (fun i σ' H' => ∃ env_i l_i, Rep K B σ' H' env_i l_i ∧ Fr2 l H1 l_i H' ∧ (∀ z : Fin bx, σ'[z.1]? = σ[z.1]?) ∧ forM p body (ds.drop i) env_i = some rs) ⟨e0, l, r1, Fr2.refl _ _, fun _ => rfl, h2⟩ (fun i σ' H' _ ⟨_, _, _, f, _⟩ => hG H' f.fr) ?_ ?_
  · rintro i x σ' H2 H3 hi ⟨ei, li, ri, fi, b0, hi2⟩ hy
    have hd : ds.drop i = ds[i] :: ds.drop (i + 1) := List.drop_eq_getElem_cons hi
    rw [hd] at hi2
    unfold forM at hi2
    obtain ⟨s3, da⟩ := hY i x H2 H3 ds[i] (un B li) fi.fr hy (List.getElem?_eq_getElem hi) (fun b z => z.elim (fun z => .inl (.inl z)) fun z => (fi.sub b z).imp .inr id) ri.tl
    have r3 := ri.same s3
    cases q : p ds[i] ei with
    | none => rw [q] at hi2; cases hi2
    | some e2 =>
      rw [q] at hi2
      simp only at hi2
      refine og.run r3 da q fun σ4 l4 r4 m4 _ k4 => ?_
      have f4 : Fr2 l H1 l4 H3 := fi.trans ⟨Fr.of s3, fun b z => .inl (m4 b z)⟩
      have b4 : ∀ z : Fin bx, σ4[z.1]? = σ[z.1]? := fun z => (k4 z.1 (hb z)).trans (b0 z)
      cases q2 : body e2 with
      | none => rw [q2] at hi2; cases hi2
      | some z =>
        rw [q2] at hi2
        cases z with
        | ex C f d => cases hi2; exact ob.run r4 q2 (Exn.later2 post1 f4)
        | ok fl e3 =>
          cases fl with
          | nx => exact ob.run r4 q2 fun σ5 H5 l5 r5 f5 b5 => ⟨e3, l5, r5, f4.trans f5, fun z => (b5 z).trans (b4 z), hi2⟩
          | ct => exact ob.run r4 q2 fun σ5 H5 l5 r5 f5 b5 => ⟨e3, l5, r5, f4.trans f5, fun z => (b5 z).trans (b4 z), hi2⟩
          | bk => cases hi2; exact ob.run r4 q2 fun σ5 H5 l5 r5 f5 b5 => post1 σ5 H5 l5 r5 (f4.trans f5) fun z => (b5 z).trans (b4 z)
          | rt w => cases hi2; exact ob.run r4 q2 fun v σ5 H5 l5 lw r5 f5 b5 => post1 v σ5 H5 l5 lw r5 (f4.trans f5) fun z => (b5 z).trans (b4 z)
  · rintro σ' H' ⟨en, ln, rn, fn, b0, hn⟩
    rw [List.drop_length] at hn
    cases hn
    exact post1 σ' H' ln rn fn b0
/-! while -/
def whileM (c : M Bool) (body : M Fl) : Nat → M Fl
  | 0 => fun _ => none
  | n + 1 => fun env =>
    match c env with
    | none => none
    | some (.ex C f d) => some (.ex C f d)
    | some (.ok b e) => if b = true then
        match body e with
        | none => none
        | some (.ex C f d) => some (.ex C f d)
        | some (.ok .nx e2) => whileM c body n e2
        | some (.ok .ct e2) => whileM c body n e2
        | some (.ok .bk e2) => some (.ok .nx e2)
        | some (.ok (.rt w) e2) => some (.ok (.rt w) e2)
      else some (.ok .nx e)
theorem OkS.while {c : TT} {tb : TS} {fc : M Bool} {body : M Fl} (n : Nat) (oc : OkT K E c fc) (ob : OkS K E bx tb body) : OkS K E bx (tWhile c tb) (whileM fc body n) := by
  refine ⟨?_⟩
  intro B σ H env l rs rp h D post
  refine ⟨fun m σ' H' => ∃ en ln, Rep K B σ' H' en ln ∧ Fr2 l H ln H' ∧ (∀ z : Fin bx, σ'[z.1]? = σ[z.1]?) ∧ whileM fc body m en = some rs, ⟨n, env, l, rp, Fr2.refl _ _, fun _ => rfl, h⟩, ?_⟩
  rintro m σ' H' ⟨en, ln, rn, fn, b0, hm⟩
  cases m with
  | zero => cases hm
  | succ m =>
    unfold whileM at hm
    cases q : fc en with
    | none => rw [q] at hm; cases hm
    | some z =>
      rw [q] at hm
      cases z with
      | ex C f d => cases hm; exact oc.run rn q (Exn.later2 post fn)
      | ok b e =>
        refine oc.run rn q fun H1 r1 f1 => ?_
        have f1' := fn.trans (Fr2.of f1)
        cases b with
        | false =>
          refine iteF ?_
          cases hm
          exact post σ' H1 ln r1 f1' b0
        | true =>
          refine iteT ?_
          simp only [if_true] at hm
          cases q2 : body e with
          | none => rw [q2] at hm; cases hm
          | some z =>
            rw [q2] at hm
            have nx : ∀ e2, whileM fc body m e2 = some rs → ∀ σ5 H5 l5, Rep K B σ5 H5 e2 l5 → Fr2 ln H1 l5 H5 → (∀ z : Fin bx, σ5[z.1]? = σ'[z.1]?) → ∃ en ln, Rep K B σ5 H5 en ln ∧ Fr2 l H ln H5 ∧ (∀ z : Fin bx, σ5[z.1]? = σ[z.1]?) ∧ whileM fc body m en = some rs :=
              fun e2 h2 σ5 H5 l5 r5 f5 b5 => ⟨e2, l5, r5, f1'.trans f5, fun z => (b5 z).trans (b0 z), h2⟩
            refine ⟨fun σ5 H5 => ∃ en ln, Rep K B σ5 H5 en ln ∧ Fr2 l H ln H5 ∧ (∀ z : Fin bx, σ5[z.1]? = σ[z.1]?) ∧ whileM fc body m en = some rs, fun _ _ z => ⟨m, Nat.lt_succ_self m, z⟩, ?_⟩
            cases z with
            | ex C f d => cases hm; exact ob.run r1 q2 (Exn.later2 post f1')
            | ok fl e3 =>
              cases fl with
              | nx => exact ob.run r1 q2 (nx e3 hm)
              | ct => exact ob.run r1 q2 (nx e3 hm)
              | bk => cases hm; exact ob.run r1 q2 fun σ5 H5 l5 r5 f5 b5 => post σ5 H5 l5 r5 (f1'.trans f5) fun z => (b5 z).trans (b0 z)
              | rt w => cases hm; exact ob.run r1 q2 fun v σ5 H5 l5 lw r5 f5 b5 => post v σ5 H5 l5 lw r5 (f1'.trans f5) fun z => (b5 z).trans (b0 z)
/-! the list of a slot is data from here on -/
def frzM (i : Nat) : M Unit := fun env =>
  match env[i]? with
  | some (some (.own xs)) => some (.ok () (env.set i (some (.dat (.list (xs.map itD))))))
  | some _ => some (.ok () env)
  | none => none
theorem OkS.frz (i : Nat) {t : TS} {f : M Fl} (o : OkS K E bx t f) : OkS K E bx t (M.bind (frzM i) fun _ => f) := by
  refine ⟨?_⟩
  intro B σ H env l rs rp h D post
  rcases bind_some h with ⟨u, e, h1, h2⟩ | ⟨C, f, d, h1, h2⟩
  · unfold frzM at h1
    split at h1
    · rename_i xs hx
      cases h1
      obtain ⟨s, a, lx, ly, q1, q2, ⟨v, q3, q4⟩, q5⟩ := rp.rp.focus hx
      subst q3
      have hi : i < env.length := (List.getElem?_eq_some_iff.mp hx).1
      have nd := rp.nd
      rw [q2] at nd
      obtain ⟨n1, n2, n3⟩ := List.nodup_append.mp nd
      obtain ⟨n4, n5, n6⟩ := List.nodup_append.mp n2
      have mem : ∀ b ∈ lx ++ ([] ++ ly), b ∈ l ∧ b ∉ a := fun b z => by
        rw [q2]
        rcases List.mem_append.mp z with z | z
        · exact ⟨List.mem_append_left _ z, fun y => n3 b z b (List.mem_append_left _ y) rfl⟩
        · have z : b ∈ ly := by simpa using z
          exact ⟨List.mem_append_right _ (List.mem_append_right _ z), fun y => n6 b y b z rfl⟩
      have e : σ.set i (some v) = σ := by
        apply List.ext_getElem?
        intro j
        by_cases z : i = j
        · subst z; rw [List.getElem?_set_self (List.getElem?_eq_some_iff.mp q1).1, q1]
        · rw [List.getElem?_set_ne z]
      have sub : Same (off (un B l) H) (off (un B (lx ++ ([] ++ ly))) H) := off_mono (fun b z n => absurd (z.imp id fun z => (mem b z).1) n) fun b o n e => e
      have da : Da K (off (un B (lx ++ ([] ++ ly))) H) v (.list (xs.map itD)) := by
        have := rpW_free (σ := σ) (show ofW (.own xs) = some _ from rfl) sub (fun b z us e => (off_ne fun y => ?_).trans e) q4
        · exact this
        · rcases y with y | y
          · exact rp.out b (by rw [q2]; exact List.mem_append_right _ (List.mem_append_left _ z)) y
          · exact (mem b y).2 z
      have r' : Rep K B σ H (env.set i (some (.dat (.list (xs.map itD))))) (lx ++ ([] ++ ly)) := by
        refine ⟨?_, ?_, fun b z => rp.out b (mem b z).1, rp.tb⟩
        · have := q5 sub (fun _ _ => rfl) (fun _ _ => rfl) (show RpS K H _ (some v) (some (.dat (.list (xs.map itD)))) [] from ⟨v, rfl, rfl, da⟩)
          rw [e] at this
          exact this
        · rw [List.nil_append]
          exact List.nodup_append.mpr ⟨n1, n5, fun x hx y hy => n3 x hx y (List.mem_append_right _ hy)⟩
      exact o.run r' h2 (post.later ⟨Fr.refl _ _, fun b z => .inl (mem b z).1⟩ fun _ => rfl)
    · cases h1; exact o.run rp h2 post
    · cases h1
  · unfold frzM at h1
    split at h1 <;> cases h1
end
end Ov
set_option Elab.async false
set_option linter.all false
set_option maxRecDepth 100000
set_option maxHeartbeats 4000000
namespace Ov
open PySem L2
/-! comprehensions -/
def wipeE (env : En) : List Nat → En
  | [] => env
  | v :: vs => (wipeE env vs).set v none
def freeB (env : En) (js : List Nat) : Bool := js.all fun j => !isOwn env[j]?
theorem freeB_free {env : En} {js : List Nat} (h : freeB env js = true) : free env js := fun j z => by
  have := List.all_eq_true.mp h j z
  simpa using this
theorem wipeE_length (env : En) : ∀ vs : List Nat, (wipeE env vs).length = env.length
  | [] => rfl
  | v :: vs => by unfold wipeE; rw [List.length_set, wipeE_length env vs]
theorem wipe_get (σ : St) (j : Nat) : ∀ vs : List Nat, (wipe σ vs)[j]? = if j ∈ vs then (if j < σ.length then some none else none) else σ[j]?
  | [] => by simp [wipe]
  | v :: vs => by
    unfold wipe
    have ih := wipe_get σ j vs
    by_cases e : v = j
    · subst e
      by_cases h : v < σ.length
      · rw [List.getElem?_set_self (by rw [wipe_length]; exact h)]; simp [h]
      · rw [List.getElem?_eq_none (by rw [List.length_set, wipe_length]; omega)]; simp [h]
    · rw [List.getElem?_set_ne e, ih]
      have : (j ∈ v :: vs) ↔ j ∈ vs := ⟨fun z => (List.mem_cons.mp z).resolve_left fun z => e z.symm, List.mem_cons_of_mem _⟩
      simp only [this]
theorem wipeE_get (σ : En) (j : Nat) : ∀ vs : List Nat, (wipeE σ vs)[j]? = if j ∈ vs then (if j < σ.length then some none else none) else σ[j]?
  | [] => by simp [wipeE]
  | v :: vs => by
    unfold wipeE
    have ih := wipeE_get σ j vs
    by_cases e : v = j
    · subst e
      by_cases h : v < σ.length
      · rw [List.getElem?_set_self (by rw [wipeE_length]; exact h)]; simp [h]
      · rw [List.getElem?_eq_none (by rw [List.length_set, wipeE_length]; omega)]; simp [h]
    · rw [List.getElem?_set_ne e, ih]
      have : (j ∈ v :: vs) ↔ j ∈ vs := ⟨fun z => (List.mem_cons.mp z).resolve_left fun z => e z.symm, List.mem_cons_of_mem _⟩
      simp only [this]
theorem wipe_ext {σ τ : St} {vs : List Nat} (hl : σ.length = τ.length) (h : ∀ j, j ∉ vs → σ[j]? = τ[j]?) : wipe σ vs = wipe τ vs := by
  apply List.ext_getElem?
  intro j
  rw [wipe_get, wipe_get, hl]
  by_cases z : j ∈ vs
  · simp [z]
  · simp only [z, if_false]; exact h j z
section
variable {K : PySem.W.Frag} {E : XK} {bx : Nat} {H G : Hp}
theorem RpE.drop1 {σ : St} {env : En} {l : List Addr} {v : Nat} (h : RpE K H G σ env l) (f : isOwn env[v]? = false) : RpE K H G (σ.set v none) (env.set v none) l := by
  cases q : env[v]? with
  | none =>
    have n : env.length ≤ v := List.getElem?_eq_none_iff.mp q
    rw [List.set_eq_of_length_le n, List.set_eq_of_length_le (by rw [h.len]; exact n)]
    exact h
  | some e =>
    obtain ⟨s, a, lx, ly, q1, q2, q3, q5⟩ := h.focus q
    have ha : a = [] := by
      rw [q] at f
      cases e with
      | none => exact q3
      | some w =>
        obtain ⟨_, _, q3⟩ := q3
        cases w with
        | dat _ => exact q3.1
        | own _ => cases f
        | dct _ => cases f
        | lin _ _ _ => cases f
        | dci _ => cases f
        | dtk _ => cases f
        | dts _ => cases f
        | pin _ _ => exact q3.1
        | dtn _ => cases f
        | dtd _ => cases f
        | nd _ => exact q3.1
        | ndd _ => exact q3.1
        | lkd _ => exact q3.1
        | exc _ _ _ => exact q3.1
    rw [q2, ha]
    exact q5 (fun _ _ z => z) (fun _ _ => rfl) (fun _ _ => rfl) rfl
theorem RpE.wipe {σ : St} {env : En} {l : List Addr} (h : RpE K H G σ env l) : ∀ {vs : List Nat}, free env vs → RpE K H G (L2.wipe σ vs) (wipeE env vs) l
  | [], _ => h
  | v :: vs, f => by
    refine RpE.drop1 (RpE.wipe h (vs := vs) fun j z => f j (List.mem_cons_of_mem _ z)) ?_
    rw [wipeE_get]
    by_cases z : v ∈ vs
    · simp only [z, if_true]
      by_cases y : v < env.length
      · simp [y, isOwn]
      · simp [y, isOwn]
    · simp only [z, if_false]; exact f v (List.mem_cons_self ..)
/-- what stands in empty slots does not matter -/
theorem RpE.any : ∀ {σ τ : St} {env : En} {l : List Addr}, RpE K H G σ env l → σ.length = τ.length → (∀ (j : Nat) (w : Wv), env[j]? = some (some w) → τ[j]? = σ[j]?) → RpE K H G τ env l
  | [], [], [], l, h, _, _ => h
  | s :: σ, t :: τ, e :: env, l, ⟨a, b, z, h1, h2⟩, hl, hk => by
    refine ⟨a, b, z, ?_, RpE.any h2 (by simpa using hl) fun j w q => hk (j + 1) w q⟩
    cases e with
    | none => exact h1
    | some w =>
      have : t = s := Option.some.inj (hk 0 w rfl)
      rw [this]
      exact h1
theorem Rep.wipe {B : Addr → Prop} {σ : St} {env : En} {l : List Addr} {vs : List Nat} (r : Rep K B σ H env l) (f : free env vs) : Rep K B (L2.wipe σ vs) H (wipeE env vs) l := ⟨r.rp.wipe f, r.nd, r.out, r.tb⟩
theorem Rep.amb {B : Addr → Prop} {σ : St} {env : En} {l : List Addr} {p : Addr} {o : HO} (r : Rep K B σ H env l) (hp : B p) (n : NT o) : Rep K B σ (upd H p o) env l := by
  have sub : Same (off (un B l) H) (off (un B l) (upd H p o)) := off_mono (fun b z n => absurd z n) fun b o n e => by rw [upd_ne (fun z => n (.inl (by rw [z]; exact hp)))]; exact e
  refine ⟨r.rp.mv sub fun q z => upd_ne fun y => r.out q z (y ▸ hp), r.nd, r.out, fun b z => ?_⟩
  by_cases e : b = p
  · subst e; exact ⟨o, upd_same, n⟩
  · rw [upd_ne e]; exact r.tb b z
def yesT : M Bool := M.pure true
theorem OkT.yes : OkT K E tYes yesT := by
  refine ⟨?_⟩
  intro B σ H env l rs rp h Q post
  cases h
  exact post H rp (Fr.refl _ _)
def compM (p : PyData → En → Option En) (ft : M Bool) (fe : M R) (vs : List Nat) : List PyData → List PyData → M (List PyData)
  | [], acc => M.pure acc
  | d :: ds, acc => fun env =>
    match p d env with
    | none => none
    | some e =>
      match ft e with
      | some (.ok b e2) => if b = true then
          match fe e2 with
          | some (.ok (.dat y) e3) => if freeB e3 vs = true ∧ acc.length < 1000000 then compM p ft fe vs ds (acc ++ [y]) (wipeE e3 vs) else none
          | _ => none
        else if freeB e2 vs = true then compM p ft fe vs ds acc (wipeE e2 vs) else none
      | _ => none
theorem compM_noex {p : PyData → En → Option En} {ft : M Bool} {fe : M R} {vs : List Nat} : ∀ {ds acc : List PyData} {env : En} {C : Addr} {f : Str} {d : PyData}, compM p ft fe vs ds acc env ≠ some (.ex C f d)
  | [], acc, env, C, f, d, h => by cases h
  | d :: ds, acc, env, C, f, d', h => by
    unfold compM at h
    split at h
    · cases h
    · split at h
      · split at h
        · split at h
          · split at h
            · exact compM_noex h
            · cases h
          · cases h
        · split at h
          · exact compM_noex h
          · cases h
      · cases h
def lcW (fi : M (List PyData)) (p : PyData → En → Option En) (ft : M Bool) (fe : M R) (vs : List Nat) : M Wv := M.bind fi fun ds => fun env => if freeB env vs = true then (M.bind (compM p ft fe vs ds []) fun out => M.pure (.own (dats out))) (wipeE env vs) else none
theorem OkW.lc {wi : TI} {g : TG} {tt : TT} {te : TE} {vs js : List Nat} {fi : M (List PyData)} {p : PyData → En → Option En} {ft : M Bool} {fe : M R} (oi : OkI K E wi fi) (og : OkG K g js p) (hj : ∀ j ∈ js, j ∈ vs) (ot : OkT K L2.E0 tt ft) (oe : OkE K L2.E0 te fe) :
    OkW K E (tLc wi g tt te vs) (lcW fi p ft fe vs) := by
  refine ⟨?_⟩
  intro B σ H env l rs rp h Q post
  rcases bind_some h with ⟨ds, e0, h1, h2⟩ | ⟨C, f, d, h1, h2⟩
  case inr => exact oi.run rp h1 (post.exn C f d h2)
  split at h2
  case isFalse => cases h2
  rename_i hf0
  rcases bind_some h2 with ⟨out, e9, h3, h4⟩ | ⟨C, f, d, h3, _⟩
  case inr => exact absurd h3 compM_noex
  cases h4
  refine oi.run rp h1 ?_
  intro J H1 G Y r1 f1 wk hG hY D hD
  have nD : ∀ b ∈ l, b ≠ D := fun b z e => r1.fresh hD (.inr (e ▸ z))
  have r1' : Rep K (un B [D]) σ (upd H1 D (.lst [])) e0 l := r1.grow (same_new hD _) (fun _ z => .inl z) (fun b z => z.imp id fun z => by rw [List.mem_singleton.mp z]; exact hD) fun b z => by
    by_cases e : b = D
    · subst e; exact ⟨_, upd_same, trivial⟩
    · rw [upd_ne e]; exact r1.tb b (z.resolve_right fun z => e (List.mem_singleton.mp z))
  refine lc_it wk (fun i H' => ∃ env_i acc va, Rep K (un B [D]) (L2.wipe σ vs) H' env_i l ∧ Fr l H1 H' ∧ H' D = some (.lst va) ∧ DaAll K (off (un (un B [D]) l) H') va acc ∧ (∀ j ∈ vs, ∀ w, env_i[j]? ≠ some (some w)) ∧ compM p ft fe vs (ds.drop i) acc env_i = some (.ok out e9)) ?_ (fun i H' _ ⟨_, _, _, _, f, _⟩ => hG H' f) ?_ ?_
  · refine ⟨_, [], [], r1'.wipe (freeB_free hf0), Fr.of (same_new hD _), upd_same, .nil, fun j z w => ?_, h3⟩
    rw [wipeE_get]
    simp only [z, if_true]
    split <;> exact fun q => by cases q
  · rintro i x H2 H3 hi ⟨ei, acc, va, ri, fri, hDi, dai, fre, hc⟩ hy
    have hd : ds.drop i = ds[i] :: ds.drop (i + 1) := List.drop_eq_getElem_cons hi
    rw [hd] at hc
    unfold compM at hc
    obtain ⟨s3, da⟩ := hY i x H2 H3 ds[i] (un (un B [D]) l) fri hy (List.getElem?_eq_getElem hi) (fun b z => z.elim (fun z => z.elim (fun z => .inl (.inl z)) fun z => by rw [List.mem_singleton.mp z]; exact .inr hD) fun z => .inl (.inr z)) ri.tl
    have r3 := ri.same s3
    cases q : p ds[i] ei with
    | none => rw [q] at hc; cases hc
    | some e2 =>
      rw [q] at hc
      simp only at hc
      have fr0 : free ei js := fun j z => by
        cases q0 : ei[j]? with
        | none => rfl
        | some w =>
          cases w with
          | none => rfl
          | some w => exact absurd q0 (fre j (hj j z) w)
      refine og.run r3 da q fun σ4 l4 r4 m4 le4 k4 => ?_
      have el := le4 fr0
      subst el
      have sl : σ4.length = (L2.wipe σ vs).length := by rw [r4.len, (og.keep q).2.2, ri.len]
      have wp : L2.wipe σ4 vs = L2.wipe σ vs := by
        rw [wipe_ext sl fun j z => k4 j fun y => z (hj j y)]
        refine wipe_ext (wipe_length σ vs) fun j z => ?_
        rw [wipe_get]
        simp [z]
      refine ⟨wp, ?_⟩
      cases q2 : ft e2 with
      | none => rw [q2] at hc; cases hc
      | some z2 =>
        rw [q2] at hc
        cases z2 with
        | ex C f d => cases hc
        | ok b e3 =>
          refine ot.run r4 q2 fun H4 r5 f5 => ?_
          have nx : ∀ {e5 : En} {H5 : Hp}, Rep K (un B [D]) σ4 H5 e5 l4 → freeB e5 vs = true → Rep K (un B [D]) (L2.wipe σ vs) H5 (wipeE e5 vs) l4 ∧ ∀ j ∈ vs, ∀ w, (wipeE e5 vs)[j]? ≠ some (some w) := fun {e5 H5} r fb => by
            refine ⟨by rw [← wp]; exact r.wipe (freeB_free fb), fun j z w => ?_⟩
            rw [wipeE_get]
            simp only [z, if_true]
            split <;> exact fun q => by cases q
          have f25 : Fr l4 H2 H4 := (Fr.of s3).trans f5
          have kD : ∀ {H5 : Hp}, Fr l4 H2 H5 → H5 D = some (.lst va) := fun f => f D _ (fun z => nD D z rfl) hDi
          cases b with
          | false =>
            refine iteF ?_
            simp only [Bool.false_eq_true, if_false] at hc
            split at hc
            · rename_i fb
              obtain ⟨ra, rb⟩ := nx r5 fb
              exact ⟨_, acc, va, ra, fri.trans f25, kD f25, DaAll.same f25.keep acc dai, rb, hc⟩
            · cases hc
          | true =>
            refine iteT ?_
            simp only [if_true] at hc
            cases q3 : fe e3 with
            | none => rw [q3] at hc; cases hc
            | some z3 =>
              rw [q3] at hc
              cases z3 with
              | ex C f d => cases hc
              | ok y e4 =>
                cases y with
                | slot _ => cases hc
                | exc _ _ _ => cases hc
                | dat y =>
                  simp only at hc
                  split at hc
                  · rename_i fb
                    refine oe.run r5 q3 fun v H5 r6 f6 q6 => ?_
                    have f26 := f25.trans f6
                    have sz : va.length < sizeLine := by rw [daAll_len dai]; exact Nat.lt_trans fb.2 (by decide)
                    refine ⟨va, kD f26, sz, ?_⟩
                    obtain ⟨ra, rb⟩ := nx r6 fb.1
                    have hBD : (un B [D]) D := .inr (List.mem_cons_self ..)
                    have sub : Same (off (un (un B [D]) l4) H5) (off (un (un B [D]) l4) (upd H5 D (.lst (va ++ [v])))) := off_mono (fun b z n => absurd z n) fun b o n e => by rw [upd_ne (fun z => n (.inl (by rw [z]; exact hBD)))]; exact e
                    refine ⟨_, acc ++ [y], va ++ [v], ra.amb hBD trivial, fun b o n e => ?_, upd_same, ?_, rb, hc⟩
                    · rw [upd_ne (ne_of_none e hD)]
                      exact (fri.trans f26) b o n e
                    · exact daAll_append (DaAll.same sub acc (DaAll.same f26.keep acc dai)) (.cons (Da.same sub y q6) .nil)
                  · cases hc
  · rintro H9 ⟨en, acc, va, rn, frn, hDn, dan, fre, hc⟩
    rw [List.drop_length] at hc
    cases hc
    have rr : Rep K (un B [D]) σ H9 e9 l := ⟨rn.rp.any (wipe_length σ vs) fun j w q => by
      rw [wipe_get]
      by_cases z : j ∈ vs
      · exact absurd q (fre j z w)
      · simp [z], rn.nd, rn.out, rn.tb⟩
    refine post (.ref D) H9 [D] rr (f1.trans frn) ⟨D, va, [], rfl, rfl, hDn, rp1s_of dan⟩ (List.nodup_cons.mpr ⟨by simp, List.nodup_nil⟩) fun b z => ?_
    rw [List.mem_singleton.mp z]
    cases q : H D with
    | none => rfl
    | some o =>
      rw [f1 D o (fun z => nD D z rfl) q] at hD
      cases hD
end
end Ov
set_option Elab.async false
set_option linter.all false
set_option maxRecDepth 100000
set_option maxHeartbeats 4000000
namespace Ov
open PySem L2
/-! what is walked -/
section
variable {X : Cx} {tg : Expr}
def iSeq (K : PySem.W.Frag) (tl : TE) : TI := fun σ H R => tl σ H fun x H1 => ∃ a xs, x = .ref a ∧ ((SqL K H1 a xs ∧ R (Itl K a) H1) ∨ (SqT K H1 a xs ∧ R (Itt K a) H1))
theorem pi_seq {l : Expr} {tl : TE} (hl : PE X l tl) : PI X tg l (iSeq X.K tl) := by
  refine ⟨fun pins s σ H R I h => ?_⟩
  refine thn (hl.run pins s σ H _ I h) fun v s1 ⟨x, H1, I1, r1, q1⟩ => ?_
  obtain ⟨a, xs, e, ⟨hq, q⟩ | ⟨hq, q⟩⟩ := q1
  · subst e
    cases r1
    obtain ⟨its, rv, p, hz⟩ := I1.list hq
    refine wpAny_pyIter_list p.isList ?_
    refine ⟨s1.heap.objs.size, [s1.heap.objs.size], _, _, H1, rfl, I1.kept (t' := s1.toks) fun b o e => Heap.get?_push_of_some _ e, turn_list a _, ⟨_, Heap.get?_push_size _ rfl, rfl, rfl⟩, fun b hb => ?_, q⟩
    rw [List.mem_singleton.mp hb]
    exact I1.fpOk (Nat.le_refl _) (I1.hok.fresh (Nat.le_refl _))
  · subst e
    cases r1
    obtain ⟨its, rv, p, hz⟩ := I1.tuple hq
    refine wpAny_pyIter_tuple p ?_
    refine ⟨s1.heap.objs.size, [s1.heap.objs.size], _, _, H1, rfl, I1.kept (t' := s1.toks) fun b o e => Heap.get?_push_of_some _ e, turn_tuple a _, ⟨_, Heap.get?_push_size _ rfl, rfl, rfl⟩, fun b hb => ?_, q⟩
    rw [List.mem_singleton.mp hb]
    exact I1.fpOk (Nat.le_refl _) (I1.hok.fresh (Nat.le_refl _))
end
section
variable {K : PySem.W.Frag} {E : XK} {bx : Nat}
def seqI (f : M R) : M (List PyData) := M.bind f fun r => M.bind (lift (asD r)) fun d => lift (seqD d)
theorem OkI.seq {t : TE} {f : M R} (o : OkE K E t f) : OkI K E (iSeq K t) (seqI f) := by
  refine ⟨?_⟩
  intro B σ H env l rs rp h R post
  refine o.seq rp h post.exn fun a e v H1 h1 r1 f1 q1 => ?_
  obtain ⟨d, h2, h3⟩ := lift_step h1
  rw [asD_some h2] at q1
  obtain ⟨ds, h4, h5⟩ := lift_some h3
  subst h5
  have q1 : Da K (off (un B l) H1) v d := q1
  cases d with
  | list es =>
    cases h4
    cases q1 with
    | lst hq ha =>
      refine ⟨_, _, rfl, .inl ⟨rd_sq (rd_same (off_sub _ _) hq), post _ H1 _ _ r1 f1 (by rw [← daAll_len ha]; exact walk_list) (fun H2 f => rd_sq (rd_same (off_sub _ _) (rd_same f.keep hq))) ?_⟩⟩
      rintro i x H2 H3 d S fr ⟨rfl, hx⟩ hd hs _
      obtain ⟨y, e1, e2⟩ := daAll_get ha hd
      rw [hx] at e1
      cases e1
      exact ⟨same_refl _, e2.walk fr hs⟩
  | tuple es =>
    cases h4
    cases q1 with
    | tup hq ha =>
      refine ⟨_, _, rfl, .inr ⟨seqP (off_sub _ _) hq, post _ H1 _ _ r1 f1 (by rw [← daAll_len ha]; exact walk_tup) (fun H2 f => seqT (off_sub _ _) (seqP f.keep hq)) ?_⟩⟩
      rintro i x H2 H3 d S fr ⟨rfl, hx⟩ hd hs _
      obtain ⟨y, e1, e2⟩ := daAll_get ha hd
      rw [hx] at e1
      cases e1
      exact ⟨same_refl _, e2.walk fr hs⟩
  | none => cases h4
  | bool _ => cases h4
  | int _ => cases h4
  | str _ => cases h4
  | dict _ => cases h4
/-- lo, lo + 1, .. below hi -/
def rngL (lo hi : Int) : List Int := (List.range (hi - lo).toNat).map fun (k : Nat) => lo + (k : Int)
def rngD (as : List PyData) : Option (List PyData) :=
  match as with
  | [.int j] => if -(2 ^ 62) ≤ j ∧ j < 2 ^ 62 then some ((rngL 0 j).map .int) else none
  | _ => none
def rngD2 (as : List PyData) : Option (List PyData) :=
  match as with
  | [.int i, .int j] => if -(2 ^ 62) ≤ i ∧ i < 2 ^ 62 ∧ -(2 ^ 62) ≤ j ∧ j < 2 ^ 62 then some ((rngL i j).map .int) else none
  | _ => none
def argI (fo : List PyData → Option (List PyData)) (fa : M (List R)) : M (List PyData) := M.bind fa fun rs => M.bind (lift (dds rs)) fun ds => lift (fo ds)
theorem rng_len (lo hi : Int) : ((rngL lo hi).map PyData.int).length = (hi - lo).toNat := by simp [rngL]
theorem rng_get {lo hi : Int} {i : Nat} {d : PyData} (h : ((rngL lo hi).map PyData.int)[i]? = some d) : d = .int (lo + i) := by
  unfold rngL at h
  rw [List.getElem?_map, List.getElem?_map] at h
  obtain ⟨x, h1, h2⟩ := Option.map_eq_some_iff.mp h
  obtain ⟨y, h3, h4⟩ := Option.map_eq_some_iff.mp h1
  obtain ⟨h5, h6⟩ := List.getElem?_eq_some_iff.mp h3
  rw [List.getElem_range] at h6
  subst h6 h4 h2
  rfl
theorem OkI.range1 {t : TA} {fa : M (List R)} (o : OkA K E t fa) : OkI K E (iRng1 t) (argI rngD fa) := by
  refine ⟨?_⟩
  intro B σ H env l rs rp h R post
  refine o.seq rp h post.exn fun a e v H1 h1 r1 f1 q1 => ?_
  obtain ⟨ds, h2, h3⟩ := lift_step h1
  obtain ⟨out, h4, h5⟩ := lift_some h3
  subst h5
  have da := dds_ok q1 h2
  unfold rngD at h4
  split at h4
  · split at h4
    · rename_i j hj
      cases h4
      cases da with
      | cons d1 t1 =>
        cases t1
        cases d1
        refine ⟨j, rfl, hj.1, hj.2, post _ H1 _ _ r1 f1 (by rw [rng_len, show j - 0 = j by omega]; exact walk_range) (fun _ _ => trivial) ?_⟩
        rintro i x H2 H3 d S fr ⟨rfl, rfl⟩ hd hs _
        rw [rng_get hd]
        exact ⟨same_refl _, .int _⟩
    · cases h4
  · cases h4
theorem OkI.range2 {t : TA} {fa : M (List R)} (o : OkA K E t fa) : OkI K E (iRng2 t) (argI rngD2 fa) := by
  refine ⟨?_⟩
  intro B σ H env l rs rp h R post
  refine o.seq rp h post.exn fun a e v H1 h1 r1 f1 q1 => ?_
  obtain ⟨ds, h2, h3⟩ := lift_step h1
  obtain ⟨out, h4, h5⟩ := lift_some h3
  subst h5
  have da := dds_ok q1 h2
  unfold rngD2 at h4
  split at h4
  · split at h4
    · rename_i i0 j0 hj
      cases h4
      cases da with
      | cons d1 t1 =>
        cases t1 with
        | cons d2 t2 =>
          cases t2
          cases d1
          cases d2
          refine ⟨_, _, rfl, hj, post _ H1 _ _ r1 f1 (by rw [rng_len]; exact walk_range) (fun _ _ => trivial) ?_⟩
          rintro i x H2 H3 d S fr ⟨rfl, rfl⟩ hd hs _
          rw [rng_get hd]
          exact ⟨same_refl _, .int _⟩
    · cases h4
  · cases h4
/-- pairs -/
def pairUp (a b : List PyData) : List PyData := List.zipWith (fun x y => .tuple [x, y]) a b
theorem pair_get {a b : List PyData} {i : Nat} {d : PyData} (h : (pairUp a b)[i]? = some d) : ∃ x y, a[i]? = some x ∧ b[i]? = some y ∧ d = .tuple [x, y] := by
  unfold pairUp at h
  rw [List.getElem?_zipWith] at h
  cases q : a[i]? with
  | none => rw [q] at h; cases h
  | some x =>
    cases q2 : b[i]? with
    | none => rw [q, q2] at h; cases h
    | some y => rw [q, q2] at h; cases h; exact ⟨x, y, rfl, rfl, rfl⟩
theorem pair_len (a b : List PyData) : (pairUp a b).length = min a.length b.length := List.length_zipWith ..
/-- a new pair of two data -/
theorem pair_da {B S : Addr → Prop} {l : List Addr} {H1 H2 H3 : Hp} {T : Addr} {u v : V} {x y : PyData} {o : Obj} (hS : ∀ b, S b → ∃ o, H2 b = some o ∧ NT o) (hT : H2 T = none) (od : o.dict = none) (e : H3 = upd H2 T (.frz o (.tup [u, v]))) (hu : Da K (off S H2) u x) (hv : Da K (off S H2) v y) :
    Same H2 H3 ∧ Da K (off S H3) (.ref T) (.tuple [x, y]) := by
  subst e
  exact ⟨same_new hT _, (new_dp hS hT (.cons hu (.cons hv .nil))).2 o od⟩
def zipD (as : List PyData) : Option (List PyData) :=
  match as with
  | [.list a, .list b] => some (pairUp a b)
  | [.tuple a, .tuple b] => some (pairUp a b)
  | _ => none
theorem daAll1 {G : Hp} {vs : List V} {d : PyData} (h : DaAll K G vs [d]) : ∃ v, vs = [v] ∧ Da K G v d := by
  cases h with | cons a t => cases t; exact ⟨_, rfl, a⟩
end
end Ov
set_option Elab.async false
set_option linter.all false
set_option maxRecDepth 100000
set_option maxHeartbeats 4000000
namespace Ov
open PySem L2
/-! a list that a slot owns, changed by its methods -/
section
variable {K : PySem.W.Frag} {E : XK} {bx : Nat}
theorem set_same {α : Type} {σ : List α} {i : Nat} {s : α} (h : σ[i]? = some s) : σ.set i s = σ := by
  apply List.ext_getElem?
  intro j
  by_cases z : i = j
  · subst z; rw [List.getElem?_set_self (List.getElem?_eq_some_iff.mp h).1, h]
  · rw [List.getElem?_set_ne z]
/-- the list of slot i, and any other in its place -/
theorem Rep.mut2 {B : Addr → Prop} {σ : St} {H : Hp} {env : En} {l : List Addr} {i : Nat} {ds : List PyData} (r : Rep K B σ H env l) (hx : env[i]? = some (some (.own (dats ds)))) :
    ∃ p vs, σ[i]? = some (some (.ref p)) ∧ H p = some (.lst vs) ∧ p ∈ l ∧ DaAll K (off (un B l) H) vs ds ∧ ∀ {H' : Hp} {B' : Addr → Prop} {vs' : List V} {ds' : List PyData}, (∀ q ∈ l, q ≠ p → H' q = H q) → H' p = some (.lst vs') → Same (off (un B l) H) (off (un B' l) H') →
      DaAll K (off (un B' l) H') vs' ds' → (∀ b ∈ l, ¬ B' b) → (∀ b, B' b → ∃ o, H' b = some o ∧ NT o) → Rep K B' σ H' (env.set i (some (.own (dats ds')))) l := by
  obtain ⟨s, a, lx, ly, q1, q2, ⟨v, rfl, p, vs, b, rfl, rfl, q6, q7⟩, q5⟩ := r.rp.focus hx
  obtain ⟨rfl, q8⟩ := rp1s_dats q7
  have hp : p ∈ l := by rw [q2]; exact List.mem_append_right _ (List.mem_append_left _ (List.mem_cons_self ..))
  refine ⟨p, vs, q1, q6, hp, q8, fun {H' B' vs' ds'} k1 k2 sub h' o' t' => ?_⟩
  have nd := r.nd
  rw [q2] at nd
  obtain ⟨n1, n2, n3⟩ := List.nodup_append.mp nd
  obtain ⟨n4, n5, n6⟩ := List.nodup_append.mp n2
  refine ⟨?_, r.nd, o', t'⟩
  have := q5 (H' := H') (G' := off (un B' l) H') (s' := some (.ref p)) (e' := some (.own (dats ds'))) (a' := [p]) sub
    (fun q z => k1 q (by rw [q2]; exact List.mem_append_left _ z) fun e => n3 q z p (List.mem_append_left _ (List.mem_cons_self ..)) e) (fun q z => k1 q (by rw [q2]; exact List.mem_append_right _ (List.mem_append_right _ z)) fun e => n6 p (List.mem_cons_self ..) q z e.symm)
    ⟨_, rfl, p, vs', [], rfl, rfl, k2, rp1s_of h'⟩
  rw [set_same q1] at this
  rw [q2] at this ⊢
  exact this
theorem Rep.mut {B : Addr → Prop} {σ : St} {H : Hp} {env : En} {l : List Addr} {i : Nat} {ds : List PyData} (r : Rep K B σ H env l) (hx : env[i]? = some (some (.own (dats ds)))) :
    ∃ p vs, σ[i]? = some (some (.ref p)) ∧ H p = some (.lst vs) ∧ p ∈ l ∧ DaAll K (off (un B l) H) vs ds ∧ ∀ {vs' : List V} {ds' : List PyData}, DaAll K (off (un B l) H) vs' ds' → Rep K B σ (upd H p (.lst vs')) (env.set i (some (.own (dats ds')))) l := by
  obtain ⟨p, vs, q1, q6, hp, q8, q9⟩ := r.mut2 hx
  refine ⟨p, vs, q1, q6, hp, q8, fun {vs' ds'} h' => ?_⟩
  have sub : Same (off (un B l) H) (off (un B l) (upd H p (.lst vs'))) := off_mono (fun b z n => absurd z n) fun b o n e => by rw [upd_ne (fun z => n (.inr (by rw [z]; exact hp)))]; exact e
  refine q9 (fun q _ n => upd_ne n) upd_same sub (DaAll.same sub ds' h') r.out fun b z => ?_
  obtain ⟨o, e, n⟩ := r.tb b z
  exact ⟨o, by rw [upd_ne (fun y => r.out p hp (by rw [← y]; exact z))]; exact e, n⟩
theorem fr_upd {l : List Addr} {H : Hp} {p : Addr} {o : HO} (hp : p ∈ l) : Fr l H (upd H p o) := fun b u n h => by rw [upd_ne (fun z => n (by rw [z]; exact hp))]; exact h
def ownD (i : Nat) : M (List PyData) := fun env =>
  match env[i]? with
  | some (some (.own xs)) => (itds xs).map fun ds => .ok ds env
  | _ => none
theorem ownD_step {α : Type} {i : Nat} {g : List PyData → M α} {env : En} {rs : Rs α} (h : (M.bind (ownD i) g) env = some rs) : ∃ ds, env[i]? = some (some (.own (dats ds))) ∧ g ds env = some rs := by
  have key : ∀ z, ownD i env = some z → ∃ ds, env[i]? = some (some (.own (dats ds))) ∧ z = .ok ds env := fun z hz => by
    unfold ownD at hz
    split at hz
    · rename_i xs hx
      obtain ⟨ds, e1, e2⟩ := Option.map_eq_some_iff.mp hz
      exact ⟨ds, by rw [hx, itds_eq e1], e2.symm⟩
    · cases hz
  rcases bind_some h with ⟨a, e, h1, h2⟩ | ⟨C, f, d, h1, h2⟩
  · obtain ⟨ds, e1, e2⟩ := key _ h1
    cases e2
    exact ⟨_, e1, h2⟩
  · obtain ⟨ds, e1, e2⟩ := key _ h1
    cases e2
def setOwn (i : Nat) (ds : List PyData) : M Unit := fun env => some (.ok () (env.set i (some (.own (dats ds)))))
theorem setOwn_step {α : Type} {i : Nat} {ds : List PyData} {g : Unit → M α} {env : En} {rs : Rs α} (h : (M.bind (setOwn i ds) g) env = some rs) : g () (env.set i (some (.own (dats ds)))) = some rs := h
def MtOk (K : PySem.W.Frag) (r : V → List V → Hp → VK → Prop) (fo : List PyData → List PyData → Option (List PyData × PyData)) : Prop := ∀ {S : Addr → Prop} {H : Hp} {p : Addr} {vs xs : List V} {ds as ds' : List PyData} {d : PyData},
  H p = some (.lst vs) → DaAll K (off S H) vs ds → DaAll K (off S H) xs as → fo ds as = some (ds', d) → ∀ {Q : VK}, (∀ v vs', DaAll K (off S H) vs' ds' → Da K (off S H) v d → Q v (upd H p (.lst vs'))) → r (.ref p) xs H Q
def mthE (i : Nat) (fo : List PyData → List PyData → Option (List PyData × PyData)) (fa : M (List R)) : M R := M.bind (ownD i) fun _ => M.bind fa fun rs => M.bind (lift (dds rs)) fun as => M.bind (ownD i) fun ds => M.bind (lift (fo ds as)) fun r => M.bind (setOwn i r.1) fun _ => M.pure (.dat r.2)
theorem OkE.mth {i : Nat} {r : V → List V → Hp → VK → Prop} {fo : List PyData → List PyData → Option (List PyData × PyData)} {t : TA} {fa : M (List R)} (o : MtOk K r fo) (oa : OkA K E t fa) : OkE K E (tBM K "list" r (tVar i) t) (mthE i fo fa) := by
  refine ⟨?_⟩
  intro B σ H env l rs rp h Q post
  obtain ⟨ds0, hx0, h0⟩ := ownD_step h
  obtain ⟨p, vs0, q1, q2, q3, q4, _⟩ := rp.mut hx0
  refine ⟨.ref p, q1, .inl ⟨rfl, _, SqL.of q2⟩, ?_⟩
  refine oa.seq rp h0 post.exn fun a e vs H1 h1 r1 f1 w1 => ?_
  obtain ⟨as, h2, h3⟩ := lift_step h1
  obtain ⟨ds, hx, h4⟩ := ownD_step h3
  obtain ⟨⟨ds', d⟩, h5, h6⟩ := lift_step h4
  have h7 := setOwn_step h6
  cases h7
  obtain ⟨p', vs1, s1, s2, s3, s4, s5⟩ := r1.mut hx
  rw [q1] at s1
  cases s1
  refine o s2 s4 (dds_ok w1 h2) h5 fun v vs' d1 d2 => post v _ (s5 d1) (f1.trans (fr_upd s3)) ?_
  refine Da.same (off_mono (fun b z n => absurd z n) fun b o n e => ?_) _ d2
  rw [upd_ne (fun z => n (.inr (by rw [z]; exact s3)))]
  exact e
def appD (ds as : List PyData) : Option (List PyData × PyData) :=
  match as with
  | [a] => (sz (ds.length + 1)).map fun _ => (ds ++ [a], .none)
  | _ => none
theorem sz_lt {n : Nat} {u : Unit} (h : sz (n + 1) = some u) : n < sizeLine := sz_ok h
theorem ok_app : MtOk K rAppend appD := by
  intro S H p vs xs ds as ds' d hp hd ha e Q q
  unfold appD at e
  split at e
  · obtain ⟨u, e1, e2⟩ := Option.map_eq_some_iff.mp e
    cases e2
    obtain ⟨v, rfl, h1⟩ := daAll1 ha
    exact ⟨p, vs, v, rfl, rfl, hp, by rw [daAll_len hd]; exact sz_lt e1, q _ _ (daAll_append hd (.cons h1 .nil)) .non⟩
  · cases e
def insD (ds as : List PyData) : Option (List PyData × PyData) :=
  match as with
  | [.int i, a] => if 0 ≤ i ∧ i < 2 ^ 62 then (sz (ds.length + 1)).map fun _ => (ds.take i.toNat ++ [a] ++ ds.drop i.toNat, .none) else none
  | _ => none
theorem ok_ins : MtOk K (fun x vs H Q => ∃ (l : Addr) (xs : List V) (i : Int) (y : V), x = .ref l ∧ vs = [.int i, y] ∧ H l = some (.lst xs) ∧ xs.length < sizeLine ∧ 0 ≤ i ∧ i < 2 ^ 63 ∧ Q .non (upd H l (.lst (xs.take i.toNat ++ [y] ++ xs.drop i.toNat)))) insD := by
  intro S H p vs xs ds as ds' d hp hd ha e Q q
  unfold insD at e
  split at e
  · split at e
    · rename_i hi
      obtain ⟨u, e1, e2⟩ := Option.map_eq_some_iff.mp e
      cases e2
      cases ha with
      | cons h1 t1 =>
        obtain ⟨v, rfl, h2⟩ := daAll1 t1
        cases h1
        exact ⟨p, vs, _, v, rfl, rfl, hp, by rw [daAll_len hd]; exact sz_lt e1, hi.1, by omega, q _ _ (daAll_append (daAll_append (daAll_take hd _) (.cons h2 .nil)) (daAll_drop hd _)) .non⟩
    · cases e
  · cases e
def popD (ds as : List PyData) : Option (List PyData × PyData) :=
  match as with
  | [.int i] => if 0 ≤ i ∧ i < 2 ^ 62 then ds[i.toNat]?.map fun d => (ds.eraseIdx i.toNat, d) else none
  | _ => none
theorem ok_pop : MtOk K rPopAt popD := by
  intro S H p vs xs ds as ds' d hp hd ha e Q q
  unfold popD at e
  split at e
  · split at e
    · rename_i i hi
      obtain ⟨x, e1, e2⟩ := Option.map_eq_some_iff.mp e
      cases e2
      obtain ⟨v, rfl, h2⟩ := daAll1 ha
      cases h2
      obtain ⟨y, e3, e4⟩ := daAll_get hd e1
      have lt := (List.getElem?_eq_some_iff.mp e3).1
      exact ⟨p, vs, i, i.toNat, y, rfl, rfl, hp, by omega, by omega, by rw [seqIndex_of hi.1 (by omega)], e3, q _ _ (daAll_erase hd _) e4⟩
    · cases e
  · cases e
/-! x[i] = e, the list of a slot -/
def setIx (i : Nat) (fe fk : M R) : M Fl := M.bind fe fun r => M.bind (lift (asD r)) fun d => M.bind (ownD i) fun _ => M.bind fk fun k => M.bind (lift (asI k)) fun k => M.bind (ownD i) fun ds => M.bind (lift (ixN ds.length k)) fun j => M.bind (setOwn i (ds.set j d)) fun _ => M.pure .nx
theorem OkS.setIx {i : Nat} {te tk : TE} {fe fk : M R} (oe : OkE K E te fe) (ok : OkE K E tk fk) : OkS K E bx (tAsg te (gSub (tVar i) tk rSetL)) (Ov.setIx i fe fk) := by
  refine ⟨?_⟩
  intro B σ H env l rs rp h D post
  refine oe.seq rp h post.exn fun a e v H1 h1 r1 f1 q1 => ?_
  obtain ⟨d, h2, h3⟩ := lift_step h1
  obtain ⟨ds0, hx0, h4⟩ := ownD_step h3
  obtain ⟨p, vs0, s1, s2, s3, s4, _⟩ := r1.mut hx0
  refine ⟨.ref p, s1, ?_⟩
  refine ok.seq r1 h4 (exn_later post.exn f1) fun k e2 v2 H2 h5 r2 f2 q2 => ?_
  obtain ⟨k', h6, h7⟩ := lift_step h5
  obtain ⟨ds, hx, h8⟩ := ownD_step h7
  obtain ⟨j, h9, ha⟩ := lift_step h8
  have hb := setOwn_step ha
  cases hb
  obtain ⟨p', vs, t1, t2, t3, t4, t5⟩ := r2.mut hx
  rw [s1] at t1
  cases t1
  rw [asI_some h6] at q2
  cases q2
  rw [asD_some h2] at q1
  refine ⟨p, vs, k', j, rfl, rfl, t2, by rw [daAll_len t4]; exact h9, ?_⟩
  exact post σ _ l (t5 (daAll_set (Da.same f2.keep d q1) t4 j)) (Fr2.of ((f1.trans f2).trans (fr_upd t3))) fun _ => rfl
/-! new lists of one's own -/
theorem new_own {B : Addr → Prop} {σ : St} {H1 : Hp} {env : En} {l : List Addr} {p : Addr} {vs : List V} {ds : List PyData} (r : Rep K B σ H1 env l) (hp : H1 p = none) (da : DaAll K (off (un B l) H1) vs ds) :
    Rep K (un B [p]) σ (upd H1 p (.lst vs)) env l ∧ RpW K (upd H1 p (.lst vs)) (off (un (un B [p]) l) (upd H1 p (.lst vs))) (.ref p) (.own (dats ds)) [p] := by
  refine ⟨r.grow (same_new hp _) (fun _ z => .inl z) (fun b z => z.imp id fun z => by rw [List.mem_singleton.mp z]; exact hp) fun b z => ?_, p, vs, [], rfl, rfl, upd_same, rp1s_of (DaAll.same ?_ ds da)⟩
  · by_cases e : b = p
    · subst e; exact ⟨_, upd_same, trivial⟩
    · rw [upd_ne e]; exact r.tb b (z.resolve_right fun z => e (List.mem_singleton.mp z))
  · refine off_mono (fun b z n => ?_) fun b o n e => by rw [upd_ne (ne_of_none e hp)]; exact e
    rcases z with (z | z) | z
    · exact absurd (.inl z) n
    · rw [List.mem_singleton.mp z]; exact hp
    · exact absurd (.inr z) n
theorem fresh_back {B : Addr → Prop} {σ : St} {H H1 : Hp} {env : En} {l : List Addr} {p : Addr} (r : Rep K B σ H1 env l) (f : Fr l H H1) (hp : H1 p = none) : ∀ b ∈ [p], H b = none := fun b z => by
  rw [List.mem_singleton.mp z]
  cases q : H p with
  | none => rfl
  | some o =>
    rw [f p o (fun z => r.fresh hp (.inr z)) q] at hp
    cases hp
def lstW (fa : M (List R)) : M Wv := M.bind fa fun a => M.bind (lift (dds a)) fun ds => M.bind (lift (sz ds.length)) fun _ => M.pure (.own (dats ds))
theorem OkW.lst {t : TA} {fa : M (List R)} (oa : OkA K E t fa) : OkW K E (tLst t) (lstW fa) := by
  refine ⟨?_⟩
  intro B σ H env l rs rp h Q post
  refine oa.seq rp h post.exn fun a e vs H1 h1 r1 f1 q1 => ?_
  obtain ⟨ds, e1, h2⟩ := lift_step h1
  obtain ⟨u, e2, h3⟩ := lift_step h2
  cases h3
  have dp := dds_ok q1 e1
  refine ⟨by rw [daAll_len dp]; exact sz_ok e2, fun p hp => ?_⟩
  obtain ⟨n1, n2⟩ := new_own r1 hp dp
  exact post _ _ [p] n1 (f1.trans (Fr.of (same_new hp _))) n2 (List.nodup_cons.mpr ⟨by simp, List.nodup_nil⟩) (fresh_back r1 f1 hp)
def listW (fa : M (List R)) : M Wv := M.bind fa fun a => M.bind (vws a) fun ds => M.bind (lift (match ds with | [a] => seqD a | _ => none)) fun es => M.pure (.own (dats es))
theorem OkW.list {t : TA} {fa : M (List R)} (oa : OkA K E t fa) : OkW K E (tCB (fun xs H Q => ∃ p ys, xs = [.ref p] ∧ (SqL K H p ys ∨ SqT K H p ys) ∧ ∀ l, H l = none → Q (.ref l) (upd H l (.lst ys))) t) (listW fa) := by
  refine ⟨?_⟩
  intro B σ H env l rs rp h Q post
  refine oa.seq rp h post.exn fun a e vs H1 h1 r1 f1 q1 => ?_
  obtain ⟨ds, h2, w⟩ := vws_ok r1 q1 h1
  obtain ⟨es, h5, h6⟩ := lift_step h2
  cases h6
  split at h5
  · obtain ⟨x, rfl, wx⟩ := vwAll1 w
    obtain ⟨p, ys, rfl, hq, da⟩ := vw_seq wx h5
    refine ⟨p, ys, rfl, hq, fun p hp => ?_⟩
    obtain ⟨n1, n2⟩ := new_own r1 hp da
    exact post _ _ [p] n1 (f1.trans (Fr.of (same_new hp _))) n2 (List.nodup_cons.mpr ⟨by simp, List.nodup_nil⟩) (fresh_back r1 f1 hp)
  · cases h5
end
/-! what a def keeps -/
/-- data in, a value out -/
def spA (K : PySem.W.Frag) (F : List PyData → Option Wv) : Sp := fun vs H Q _ => ∃ B ds w, DaAll K (off B H) vs ds ∧ (∀ b, B b → ∃ o, H b = some o ∧ NT o) ∧ F ds = some w ∧
  ∀ v H' lw, Same H H' → RpW K H' (off (un B lw) H') v w lw → lw.Nodup → (∀ b ∈ lw, H b = none) → Q v H'
/-- the first argument is a list that may be changed -/
def spB (K : PySem.W.Frag) (F : List PyData → List PyData → Option (Wv × List PyData)) : Sp := fun vs H Q _ => ∃ B p bv bs vs' ds w bs', vs = .ref p :: vs' ∧ H p = some (.lst bv) ∧ ¬ B p ∧ DaAll K (off (un B [p]) H) bv bs ∧ DaAll K (off (un B [p]) H) vs' ds ∧
  (∀ b, B b → ∃ o, H b = some o ∧ NT o) ∧ F bs ds = some (w, bs') ∧
  ∀ v H' lw bv', Fr [p] H H' → H' p = some (.lst bv') → DaAll K (off (un (un B lw) [p]) H') bv' bs' → RpW K H' (off (un (un B lw) [p]) H') v w lw → lw.Nodup → (∀ b ∈ lw, H b = none) → Q v H'
def env0 (ds : List PyData) (n : Nat) : En := ds.map (fun d => some (.dat d)) ++ List.replicate n none
def runA (np n : Nat) (fb : M Fl) (ds : List PyData) : Option Wv := if ds.length = np then
  match fb (env0 ds (n - ds.length)) with
  | some (.ok .nx _) => some (.dat .none)
  | some (.ok (.rt w) _) => some w
  | _ => none else none
def runB (np n : Nat) (fb : M Fl) (bs ds : List PyData) : Option (Wv × List PyData) := if ds.length + 1 = np then
  match fb (some (.own (dats bs)) :: env0 ds (n - (ds.length + 1))) with
  | some (.ok (.rt w) (some (.own xs) :: _)) => (itds xs).map fun bs' => (w, bs')
  | _ => none else none
section
variable {K : PySem.W.Frag} {G H : Hp}
theorem rpe_none : ∀ n : Nat, RpE K H G (List.replicate n none) (List.replicate n none) []
  | 0 => rfl
  | n + 1 => ⟨[], [], rfl, rfl, rpe_none n⟩
theorem rpe_args : ∀ {vs : List V} {ds : List PyData} (n : Nat), DaAll K G vs ds → RpE K H G (vs.map some ++ List.replicate n none) (env0 ds n) []
  | _, _, n, .nil => rpe_none n
  | _, _, n, .cons h t => ⟨[], [], rfl, ⟨_, rfl, rfl, h⟩, rpe_args n t⟩
theorem finA {t : TS} {fb : M Fl} {N : List Str} {vs : List V} {Q : VK} {E : XK} {np : Nat} (o : OkS K L2.E0 0 t fb) (h : spA K (runA np N.length fb) vs H Q E) : t { nx := fun _ H' => Q .non H', rt := Q } (L2.start N vs) H := by
  obtain ⟨B, ds, w, da, hB, hf, q⟩ := h
  have el := daAll_len da
  have rp : Rep K B (L2.start N vs) H (env0 ds (N.length - ds.length)) [] := by
    refine ⟨?_, List.nodup_nil, fun _ z => (by cases z), hB⟩
    rw [un_nil]
    unfold L2.start
    rw [el]
    exact rpe_args _ da
  unfold runA at hf
  split at hf
  case isFalse => cases hf
  cases hz : fb (env0 ds (N.length - ds.length)) with
  | none => rw [hz] at hf; cases hf
  | some z =>
    rw [hz] at hf
    cases z with
    | ex C f d => cases hf
    | ok fl e =>
      cases fl with
      | bk => cases hf
      | ct => cases hf
      | nx =>
        cases hf
        refine o.run rp hz fun σ' H' l' r' f' _ => q .non H' [] (fun b o e => f'.fr b o (fun z => by cases z) e) ⟨rfl, .non⟩ List.nodup_nil fun _ z => by cases z
      | rt w' =>
        cases hf
        refine o.run rp hz fun v σ' H' l' lw r' f' _ rw' nd hl => q v H' lw (fun b o e => f'.fr b o (fun z => by cases z) e) ?_ nd fun b z => ?_
        · exact rw'.mv (off_mono (fun b z n => absurd (.inl z) n) fun b o n e => e) fun _ _ => rfl
        · exact (f'.sub b (List.mem_append_right _ z)).resolve_left fun z => by cases z
theorem finB {t : TS} {fb : M Fl} {N : List Str} {vs : List V} {Q : VK} {E : XK} {np : Nat} (o : OkS K L2.E0 1 t fb) (h : spB K (runB np N.length fb) vs H Q E) : t { nx := fun _ H' => Q .non H', rt := Q } (L2.start N vs) H := by
  obtain ⟨B, p, bv, bs, vs', ds, w, bs', rfl, hp, nB, db, da, hB, hf, q⟩ := h
  have el := daAll_len da
  have rp : Rep K B (L2.start N (.ref p :: vs')) H (some (.own (dats bs)) :: env0 ds (N.length - (ds.length + 1))) [p] := by
    refine ⟨?_, List.nodup_cons.mpr ⟨by simp, List.nodup_nil⟩, fun b z => by rw [List.mem_singleton.mp z]; exact nB, hB⟩
    unfold L2.start
    rw [List.map_cons, List.cons_append, List.length_cons, el]
    exact ⟨[p], [], rfl, ⟨_, rfl, p, bv, [], rfl, rfl, hp, rp1s_of db⟩, rpe_args _ da⟩
  unfold runB at hf
  split at hf
  case isFalse => cases hf
  cases hz : fb (some (.own (dats bs)) :: env0 ds (N.length - (ds.length + 1))) with
  | none => rw [hz] at hf; cases hf
  | some z =>
    rw [hz] at hf
    cases z with
    | ex C f d => cases hf
    | ok fl e =>
      cases fl with
      | bk => cases hf
      | ct => cases hf
      | nx => cases hf
      | rt w' =>
        cases e with
        | nil => cases hf
        | cons e0 er =>
          cases e0 with
          | none => cases hf
          | some w0 =>
          cases w0 with
          | dat _ => cases hf
          | exc _ _ _ => cases hf
          | dct _ => cases hf
          | lin _ _ _ => cases hf
          | dci _ => cases hf
          | dtk _ => cases hf
          | dts _ => cases hf
          | pin _ _ => cases hf
          | dtn _ => cases hf
          | dtd _ => cases hf
          | nd _ => cases hf
          | ndd _ => cases hf
          | lkd _ => cases hf
          | own xs =>
          obtain ⟨bs2, e1, e2⟩ := Option.map_eq_some_iff.mp (show (itds xs).map (fun bs' => (w', bs')) = _ from hf)
          cases e2
          have hx : (some (Wv.own xs) :: er)[0]? = some (some (.own (dats bs'))) := by rw [itds_eq e1]; rfl
          refine o.run rp hz fun v σ' H' l' lw r' f' b0 rw' nd hl => ?_
          obtain ⟨p', vs2, s1, s2, s3, s4, _⟩ := r'.mut hx
          have s0 : σ'[0]? = some (some (.ref p)) := (b0 0).trans rfl
          rw [s0] at s1
          cases s1
          have sub : Same (off (un (un B lw) l') H') (off (un (un B lw) [p]) H') := off_mono (fun b z n => ?_) fun b o n e => e
          · refine q v H' lw vs2 f'.fr s2 (DaAll.same sub _ s4) (rw'.mv sub fun _ _ => rfl) nd fun b z => ?_
            exact (f'.sub b (List.mem_append_right _ z)).resolve_left fun y => (hl b z).1 (by rw [List.mem_singleton.mp y]; exact s3)
          · rcases z with z | z
            · exact absurd (.inl z) n
            · rw [List.mem_singleton.mp z] at n; exact absurd (.inr s3) n
end
theorem lenA {K : PySem.W.Frag} {np n : Nat} {fb : M Fl} {vs : List V} {H : Hp} {Q : VK} {E : XK} (h : spA K (runA np n fb) vs H Q E) : vs.length = np := by
  obtain ⟨B, ds, w, da, hB, hf, q⟩ := h
  unfold runA at hf
  split at hf
  · rw [daAll_len da]; assumption
  · cases hf
theorem lenB {K : PySem.W.Frag} {np n : Nat} {fb : M Fl} {vs : List V} {H : Hp} {Q : VK} {E : XK} (h : spB K (runB np n fb) vs H Q E) : vs.length = np := by
  obtain ⟨B, p, bv, bs, vs', ds, w, bs', rfl, hp, nB, db, da, hB, hf, q⟩ := h
  unfold runB at hf
  split at hf
  · rw [List.length_cons, daAll_len da]; assumption
  · cases hf
/-! calls -/
section
variable {K : PySem.W.Frag} {E : XK} {bx : Nat}
def callA (F : List PyData → Option Wv) (fa : M (List R)) : M Wv := M.bind fa fun rs => M.bind (lift (dds rs)) fun ds => lift (F ds)
theorem callA_ok {B : Addr → Prop} {σ : St} {H H1 : Hp} {e : En} {l : List Addr} {vs : List V} {ds : List PyData} {F : List PyData → Option Wv} {w : Wv} {Q : VK} {E' : XK} (r1 : Rep K B σ H1 e l) (f1 : Fr l H H1) (da : DaAll K (off (un B l) H1) vs ds) (hw : F ds = some w)
    (post : PostW K E B σ H l (.ok w e) Q) : spA K F vs H1 Q E' := by
  refine ⟨un B l, ds, w, da, r1.tl, hw, fun v H' lw s rw' nd fr => ?_⟩
  have hl : ∀ b ∈ lw, ¬ un B l b := fun b z => r1.fresh (fr b z)
  refine post v H' lw (r1.grow s (fun _ z => .inl z) (fun b z => z.imp id (fr b)) fun b z => ?_) (f1.trans (Fr.of s)) (rw'.mv (off_mono (fun b z n => absurd (z.elim (fun z => z.elim (fun z => .inl (.inl z)) .inr) fun z => .inl (.inr z)) n) fun b o n e => e) fun _ _ => rfl) nd fun b z => ?_
  · rcases z with z | z
    · obtain ⟨o, e, n⟩ := r1.tb b z
      exact ⟨o, s _ _ e, n⟩
    · exact rw'.trk b z
  · cases q : H b with
    | none => rfl
    | some o =>
      have := f1 b o (fun y => hl b z (.inr y)) q
      rw [fr b z] at this
      cases this
theorem OkW.call {F : List PyData → Option Wv} {E' : XK} {t : TA} {fa : M (List R)} (oa : OkA K E t fa) : OkW K E (tCall (spA K F) [] E' t) (callA F fa) := by
  refine ⟨?_⟩
  intro B σ H env l rs rp h Q post
  refine oa.seq rp h post.exn fun a e vs H1 h1 r1 f1 q1 => ?_
  obtain ⟨ds, h2, h3⟩ := lift_step h1
  obtain ⟨w, h4, h5⟩ := lift_some h3
  subst h5
  rw [List.append_nil]
  exact callA_ok r1 f1 (dds_ok q1 h2) h4 post
/-- keywords alone, in the order g -/
theorem OkW.callK {F : List PyData → Option Wv} {E' : XK} {n : Nat} {gV : List V → List V → List V} {gD : List PyData → List PyData} {t : TA} {fa : M (List R)} (hg : ∀ {G : Hp} {vs : List V} {ds : List PyData}, DaAll K G vs ds → ds.length = n → DaAll K G (gV [] vs) (gD ds)) (oa : OkA K E t fa) :
    OkW K E (L2.tCallN 0 n (spA K F) gV E' tNil t) (callA (fun ds => if ds.length = n then F (gD ds) else none) fa) := by
  refine ⟨?_⟩
  intro B σ H env l rs rp h Q post
  refine oa.seq rp h post.exn fun a e vs H1 h1 r1 f1 q1 => ?_
  obtain ⟨ds, h2, h3⟩ := lift_step h1
  obtain ⟨w, h4, h5⟩ := lift_some h3
  subst h5
  have da := dds_ok q1 h2
  simp only at h4
  split at h4
  · rename_i hn
    exact ⟨rfl, by rw [daAll_len da]; exact hn, callA_ok r1 f1 (hg da hn) h4 post⟩
  · cases h4
/-- the first argument is slot i's own list -/
def callB (i : Nat) (F : List PyData → List PyData → Option (Wv × List PyData)) (fa : M (List R)) : M Wv := M.bind (ownD i) fun _ => M.bind fa fun rs => M.bind (lift (dds rs)) fun ds => M.bind (ownD i) fun bs => M.bind (lift (F bs ds)) fun r => M.bind (setOwn i r.2) fun _ => M.pure r.1
theorem un_less {B : Addr → Prop} {l : List Addr} {p : Addr} (hp : p ∈ l) : un (fun b => un B l b ∧ b ≠ p) [p] = un B l := by
  funext b
  refine propext ⟨fun z => z.elim (fun z => z.1) fun z => ?_, fun z => ?_⟩
  · rw [List.mem_singleton.mp z]; exact .inr hp
  · by_cases e : b = p
    · exact .inr (by rw [e]; exact List.mem_cons_self ..)
    · exact .inl ⟨z, e⟩
theorem OkW.callB {i : Nat} {F : List PyData → List PyData → Option (Wv × List PyData)} {E' : XK} {t : TA} {fa : M (List R)} (oa : OkA K E t fa) : OkW K E (tCall (spB K F) [] E' (tCons (tVar i) t)) (Ov.callB i F fa) := by
  refine ⟨?_⟩
  intro B σ H env l rs rp h Q post
  obtain ⟨ds0, hx0, h0⟩ := ownD_step h
  obtain ⟨p, vs0, q1, q2, q3, q4, _⟩ := rp.mut hx0
  refine ⟨.ref p, q1, ?_⟩
  refine oa.seq rp h0 post.exn fun a e vs H1 h1 r1 f1 w1 => ?_
  obtain ⟨as, h2, h3⟩ := lift_step h1
  obtain ⟨bs, hx, h4⟩ := ownD_step h3
  obtain ⟨⟨w, bs'⟩, h5, h6⟩ := lift_step h4
  have h7 := setOwn_step h6
  cases h7
  obtain ⟨p', vs1, s1, s2, s3, s4, s5⟩ := r1.mut2 hx
  rw [q1] at s1
  cases s1
  have da := dds_ok w1 h2
  rw [List.append_nil]
  refine ⟨fun b => un B l b ∧ b ≠ p, p, vs1, bs, vs, as, w, bs', rfl, s2, fun z => z.2 rfl, by rw [un_less s3]; exact s4, by rw [un_less s3]; exact da, fun b z => r1.tl b z.1, h5, fun v H' lw bv' fr hb' db' rw' nd fw => ?_⟩
  have ew : ∀ b, un (un B lw) l b → un (un (fun b => un B l b ∧ b ≠ p) lw) [p] b := fun b z => by
    by_cases e : b = p
    · exact .inr (by rw [e]; exact List.mem_cons_self ..)
    · exact .inl (z.elim (fun z => z.imp (fun z => ⟨.inl z, e⟩) id) fun z => .inl ⟨.inr z, e⟩)
  have sb : Same (off (un (un (fun b => un B l b ∧ b ≠ p) lw) [p]) H') (off (un (un B lw) l) H') := off_mono (fun b z n => absurd (ew b z) n) fun b o n e => e
  have hl : ∀ b ∈ lw, ¬ un B l b := fun b z => r1.fresh (fw b z)
  have sub : Same (off (un B l) H1) (off (un (un B lw) l) H') := off_mono (fun b z n => z.elim (fun z => z.elim (fun z => absurd (.inl z) n) (fw b)) fun z => absurd (.inr z) n) fun b o n e => fr b o (fun z => n (by rw [List.mem_singleton.mp z]; exact .inr s3)) e
  refine post v H' lw (s5 (fun q z n => ?_) hb' sub (DaAll.same sb _ db') (fun b z y => y.elim (r1.out b z) fun y => hl b y (.inr z)) fun b z => ?_) (f1.trans fun b o n e => fr b o (fun z => n (by rw [List.mem_singleton.mp z]; exact s3)) e) (rw'.mv sb fun _ _ => rfl) nd fun b z => ?_
  · obtain ⟨us, e, _⟩ := r1.rp.trk q z
    rw [e]
    exact fr q _ (fun y => n (List.mem_singleton.mp y)) e
  · rcases z with z | z
    · obtain ⟨o, e, n⟩ := r1.tb b z
      exact ⟨o, fr b o (fun y => r1.out p s3 (by rw [← List.mem_singleton.mp y]; exact z)) e, n⟩
    · exact rw'.trk b z
  · cases q : H b with
    | none => rfl
    | some o =>
      have := f1 b o (fun y => hl b z (.inr y)) q
      rw [fw b z] at this
      cases this
end
end Ov
set_option Elab.async false
set_option linter.all false
set_option maxRecDepth 100000
set_option maxHeartbeats 4000000
namespace Ov
open PySem L2
def chk (b : Bool) : Option Unit := if b = true then some () else none
theorem chk_ok {b : Bool} {u : Unit} (h : chk b = some u) : b = true := by
  unfold chk at h
  split at h
  · assumption
  · cases h
section
variable {K : PySem.W.Frag} {E : XK} {bx : Nat}
/-! isinstance of data -/
def kitD (T : String) (d : PyData) : Option Bool := kitB (tyD d) T
def isiE (T : String) (fa : M R) : M R := M.bind fa fun r => M.bind (vw r) fun d => M.bind (lift (kitD T d)) fun b => M.pure (ofB b)
theorem OkE.isi {T : String} {ta : TE} {fa : M R} (oa : OkE K E ta fa) : OkE K E (tCB (rIsi K) (tCons ta (tCons (tC (.ty T)) tNil))) (isiE T fa) := by
  refine ⟨?_⟩
  intro B σ H env l rs rp h Q post
  refine oa.seq rp h post.exn fun a e v H1 h1 r1 f1 q1 => ?_
  obtain ⟨d, h2, w⟩ := vw_step r1 q1 h1
  obtain ⟨b, h3, h4⟩ := lift_step h2
  cases h4
  exact ⟨v, .ty T, _, _, b, rfl, .ty T, da_ty w.da, kit_ty h3, post _ H1 r1 f1 (.bl b)⟩
def isiE2 (A B : String) (fa : M R) : M R := M.bind fa fun r => M.bind (vw r) fun d => M.bind (lift (kitD A d)) fun a => M.bind (lift (kitD B d)) fun b => M.pure (ofB (a || b))
theorem OkE.isi2 {T U : String} {ta : TE} {fa : M R} (oa : OkE K E ta fa) : OkE K E (tCB (rIsiT K) (tCons ta (tCons (tTup (tCons (tC (.ty T)) (tCons (tC (.ty U)) tNil))) tNil))) (isiE2 T U fa) := by
  refine ⟨?_⟩
  intro B σ H env l rs rp h Q post
  refine oa.seq rp h post.exn fun a e v H1 h1 r1 f1 q1 => ?_
  obtain ⟨d, h2, w⟩ := vw_step r1 q1 h1
  obtain ⟨b, h3, h4⟩ := lift_step h2
  obtain ⟨b2, h5, h6⟩ := lift_step h4
  cases h6
  refine ⟨smallB rfl, fun p hp => ?_⟩
  have s1 := same_new hp (.tup [.ty T, .ty U])
  exact ⟨v, p, _, _, _, b || b2, rfl, upd_same, .cons (.ty T) (.cons (.ty U) .nil), da_ty (Da.same s1 d w.da), kit2 h3 h5, post _ _ (r1.same s1) (f1.trans (Fr.of s1)) (.bl _)⟩
/-! is None, is True -/
def isNR : R → Option Bool
  | .dat .none => some true
  | .dat _ => some false
  | .exc _ _ _ => some false
  | .slot _ => none
def isNE (n : Bool) (fa : M R) : M R := M.bind fa fun r => M.bind (lift (isNR r)) fun b => M.pure (ofB (n ^^ b))
theorem isNR_ok {G : Hp} {σ : St} {v : V} {r : R} {b : Bool} (q : RpR K G σ v r) (h : isNR r = some b) : decide (v = .non) = b := by
  cases r with
  | dat d =>
    have q : Da K G v d := q
    cases q with
    | non => cases h; rfl
    | bl _ => cases h; rfl
    | int _ => cases h; rfl
    | str _ => cases h; rfl
    | lst _ _ => cases h; rfl
    | tup _ _ => cases h; rfl
    | dct _ _ _ _ => cases h; rfl
    | dtk _ _ _ _ => cases h; rfl
  | slot i => cases h
  | exc C f d =>
    obtain ⟨a, u, rfl, _⟩ := q
    cases h
    rfl
theorem OkE.isN {ta : TE} {fa : M R} (oa : OkE K E ta fa) : OkE K E (tOp (fun x y H Q => y = .non ∧ Q (.bl (decide (x = .non))) H) ta (tC .non)) (isNE false fa) := by
  refine ⟨?_⟩
  intro B σ H env l rs rp h Q post
  refine oa.seq rp h post.exn fun a e v H1 h1 r1 f1 q1 => ?_
  obtain ⟨b, h3, h4⟩ := lift_step h1
  cases h4
  refine ⟨rfl, ?_⟩
  rw [isNR_ok q1 h3]
  exact post _ H1 r1 f1 (by rw [Bool.false_xor]; exact .bl b)
/-! turned round -/
def revD (a : PyData) : Option PyData :=
  match a with
  | .list ds => some (.list ds.reverse)
  | .tuple ds => some (.tuple ds.reverse)
  | _ => none
theorem OkE.rev {ta : TE} {fa : M R} (oa : OkE K E ta fa) : OkE K E (tRevW K ta) (op1 revD fa) := by
  refine ⟨?_⟩
  intro B σ H env l rs rp h Q post
  refine oa.seq rp h post.exn fun a e v H1 h1 r1 f1 q1 => ?_
  obtain ⟨x, h3, w1⟩ := vw_step r1 q1 h1
  obtain ⟨d, h5, h6⟩ := lift_step h3
  cases h6
  cases x with
  | list ds =>
    cases h5
    obtain ⟨p, vs, rfl, e2, e3⟩ := vw_list w1
    refine ⟨p, vs, rfl, .inl ⟨rd_sq e2, fun b H' s n hb => post _ H' (r1.same s) (f1.trans (Fr.of s)) ?_⟩⟩
    exact .lst (SqL.of ((off_ne (r1.fresh n)).trans hb)) (DaAll.same (off_new s) _ (daAll_reverse e3))
  | tuple ds =>
    cases h5
    obtain ⟨p, vs, rfl, e2, e3⟩ := vw_tup w1
    refine ⟨p, vs, rfl, .inr ⟨seqT (off_sub _ _) e2, fun b H' s n hb => post _ H' (r1.same s) (f1.trans (Fr.of s)) ?_⟩⟩
    exact .tup (TP.offn (r1.fresh n) hb) (DaAll.same (off_new s) _ (daAll_reverse e3))
  | none => cases h5
  | bool _ => cases h5
  | int _ => cases h5
  | str _ => cases h5
  | dict _ => cases h5
/-! len(set(t)) -/
def nub : List Int → List Int
  | [] => []
  | x :: r => if x ∈ r then nub r else x :: nub r
theorem nub_mem (k : Int) : ∀ ns : List Int, k ∈ nub ns ↔ k ∈ ns
  | [] => Iff.rfl
  | x :: r => by
    unfold nub
    have ih := nub_mem k r
    split
    · rename_i h
      rw [ih]
      exact ⟨List.mem_cons_of_mem _, fun z => (List.mem_cons.mp z).elim (fun z => z ▸ h) id⟩
    · rw [List.mem_cons, ih, List.mem_cons]
theorem nub_nodup : ∀ ns : List Int, (nub ns).Nodup
  | [] => List.nodup_nil
  | x :: r => by
    unfold nub
    split
    · exact nub_nodup r
    · rename_i h
      exact List.nodup_cons.mpr ⟨fun z => h ((nub_mem x r).mp z), nub_nodup r⟩
def lenSetD (a : PyData) : Option PyData :=
  match a with
  | .tuple ds => (intsD ds).bind fun ns => if ns.length ≤ 1000 then some (.int (nub ns).length) else none
  | _ => none
theorem OkE.lenSet {ta : TE} {fa : M R} (oa : OkE K E ta fa) : OkE K E (tLenSetT K ta) (op1 lenSetD fa) := by
  refine ⟨?_⟩
  intro B σ H env l rs rp h Q post
  refine oa.seq rp h post.exn fun a e v H1 h1 r1 f1 q1 => ?_
  obtain ⟨x, h3, w1⟩ := vw_step r1 q1 h1
  obtain ⟨d, h5, h6⟩ := lift_step h3
  cases h6
  cases x with
  | tuple ds =>
    obtain ⟨ns, h7, h8⟩ := Option.bind_eq_some_iff.mp (show (intsD ds).bind _ = some d from h5)
    split at h8
    · rename_i hn
      cases h8
      obtain ⟨p, vs, rfl, e2, e3⟩ := vw_tup w1
      rw [ints_da e3 h7] at e2
      refine ⟨p, ns, rfl, seqT (off_sub _ _) e2, hn, fun out nd hm => ?_⟩
      have : out.length = (nub ns).length := Nat.le_antisymm (sub_len _ _ nd fun x hx => (nub_mem x ns).mpr ((hm x).mp hx)) (sub_len _ _ (nub_nodup ns) fun x hx => (hm x).mpr ((nub_mem x ns).mp hx))
      rw [this]
      exact post _ H1 r1 f1 (.int _)
    · cases h8
  | none => cases h5
  | bool _ => cases h5
  | int _ => cases h5
  | str _ => cases h5
  | list _ => cases h5
  | dict _ => cases h5
/-! str of a number, range as a tuple or list -/
def strD (as : List PyData) : Option PyData :=
  match as with
  | [.int i] => if i.natAbs < 2 ^ 1000 then some (.str (toString i)) else none
  | _ => none
theorem ok_str : CbOk K (fun xs H Q => ∃ i, xs = [.int i] ∧ i.natAbs.log2 < 1920 ∧ Q (.str (toString i)) H) strD := by
  intro S H xs as d hS w e Q q
  unfold strD at e
  split at e
  · split at e
    · rename_i i hi
      cases e
      obtain ⟨x, rfl, wx⟩ := vwAll1 w
      refine ⟨i, by rw [vw_int wx], ?_, q _ _ (same_refl _) (.str _)⟩
      by_cases z : i.natAbs = 0
      · rw [z]; decide
      · exact Nat.lt_trans ((Nat.log2_lt z).mpr hi) (by decide)
    · cases e
  · cases e
def rgE (fr : M (Int × Int)) : M R := M.bind fr fun r => M.bind (lift (chk (decide (-(2 ^ 62) ≤ r.1 ∧ r.1 < 2 ^ 62 ∧ -(2 ^ 62) ≤ r.2 ∧ r.2 < 2 ^ 62 ∧ (r.2 - r.1).toNat ≤ 1000000)))) fun _ => M.pure (.dat (.tuple ((rngL r.1 r.2).map .int)))
def rg2 (fa fb : M R) : M (Int × Int) := M.bind fa fun a => M.bind fb fun b => M.bind (lift (asI a)) fun i => M.bind (lift (asI b)) fun j => M.pure (i, j)
/-! a, b = x, y -/
def parS (i j : Nat) (f g : M Wv) : M Fl := M.bind f fun v => M.bind g fun w => M.bind (putM i v) fun _ => M.bind (putM j w) fun _ => M.pure .nx
theorem OkS.par {i j : Nat} {ta tb : TE} {f g : M Wv} (hb : ∀ z : Fin bx, i ≠ z.1 ∧ j ≠ z.1) (o : OkW K E ta f) (o' : OkW K E tb g) : OkS K E bx (tPar i j (tCons ta (tCons tb tNil))) (parS i j f g) := by
  refine ⟨?_⟩
  intro B σ H env l rs rp h D post
  refine o.seq rp h post.exn fun w1 e1 v1 H1 l1 h1 r1 f1 q1 nd1 fr1 => ?_
  have n1 : ∀ b ∈ l1, ¬ un B l b := fun b z => rp.fresh (fr1 b z)
  have ex1 : ∀ C f d, rs = .ex C f d → Exn K E (un B l1) H1 l C f d := fun C f d e => by
    have := (post.exn C f d e).later f1
    exact this.wide
  refine o'.seq r1 h1 ex1 fun w2 e2 v2 H2 l2 h2 r2 f2 q2 nd2 fr2 => ?_
  have n2 : ∀ b ∈ l2, ¬ un (un B l1) l b := fun b z => r1.fresh (fr2 b z)
  obtain ⟨hi, h3⟩ := putM_step h2
  obtain ⟨hj, h4⟩ := putM_step h3
  cases h4
  refine ⟨v1, v2, rfl, ?_⟩
  have ec : un (un B l1) l2 = un (un B l2) l1 := by
    funext b
    exact propext ⟨fun z => z.elim (fun z => z.elim (fun z => .inl (.inl z)) .inr) fun z => .inl (.inr z), fun z => z.elim (fun z => z.elim (fun z => .inl (.inl z)) .inr) fun z => .inl (.inr z)⟩
  have q1' : RpW K H2 (off (un (un (un B l2) l1) l) H2) v1 w1 l1 := by
    refine q1.mv (off_mono (fun b z n => ?_) fun b o n e => f2 b o (fun z => n (.inr z)) e) fun b z => ?_
    · rcases z with ((z | z) | z) | z
      · exact absurd (.inl (.inl z)) n
      · exact fr2 b z
      · exact absurd (.inl (.inr z)) n
      · exact absurd (.inr z) n
    · obtain ⟨o, e, _⟩ := q1.trk b z
      rw [e]
      exact f2 b o (fun y => n1 b z (.inr y)) e
  rw [ec] at r2
  obtain ⟨l3, r3, m3⟩ := r2.put hi q1' nd1 fun b z => ⟨fun y => n1 b z (.inr y), fun y => y.elim (fun y => n1 b z (.inl y)) fun y => n2 b y (.inl (.inr z))⟩
  have sub3 : ∀ b ∈ l3, b ∈ l ∨ b ∈ l1 := m3
  have q2' : RpW K H2 (off (un (un B l2) l3) H2) v2 w2 l2 := by
    refine q2.mv (off_mono (fun b z n => ?_) fun b o n e => e) fun _ _ => rfl
    rcases z with (z | z) | z
    · exact absurd (.inl (.inl (.inl z))) n
    · exact absurd (.inl (.inr z)) n
    · rcases m3 b z with z | z
      · exact absurd (.inr z) n
      · exact absurd (.inl (.inl (.inr z))) n
  obtain ⟨l4, r4, m4⟩ := r3.put hj q2' nd2 fun b z => ⟨fun y => (m3 b y).elim (fun y => n2 b z (.inr y)) fun y => n2 b z (.inl (.inr y)), fun y => n2 b z (.inl (.inl y))⟩
  refine post _ H2 l4 r4 ⟨f1.trans f2, fun b z => ?_⟩ fun z => ?_
  · rcases m4 b z with z | z
    · exact (m3 b z).imp id (fr1 b)
    · refine .inr ?_
      cases q : H b with
      | none => rfl
      | some o =>
        have := f1 b o (fun y => n2 b z (.inr y)) q
        rw [fr2 b z] at this
        cases this
  · rw [List.getElem?_set_ne (hb z).2, List.getElem?_set_ne (hb z).1]
/-! dicts of numbers -/
def dnew : M Wv := M.pure (.dct [])
theorem OkW.dnew : OkW K E tDNewK Ov.dnew := by
  refine ⟨?_⟩
  intro B σ H env l rs rp h Q post
  cases h
  intro p hp
  refine post _ _ [p] (rp.grow (same_new hp _) (fun _ z => .inl z) (fun b z => z.imp id fun z => by rw [List.mem_singleton.mp z]; exact hp) fun b z => ?_) (Fr.of (same_new hp _)) ⟨p, rfl, rfl, upd_same⟩ (List.nodup_cons.mpr ⟨by simp, List.nodup_nil⟩) fun b z => by rw [List.mem_singleton.mp z]; exact hp
  by_cases e : b = p
  · subst e; exact ⟨_, upd_same, trivial⟩
  · rw [upd_ne e]; exact rp.tb b (z.resolve_right fun z => e (List.mem_singleton.mp z))
def dctD (i : Nat) : M (List Int) := fun env =>
  match env[i]? with
  | some (some (.dct ks)) => some (.ok ks env)
  | _ => none
theorem dctD_step {α : Type} {i : Nat} {g : List Int → M α} {env : En} {rs : Rs α} (h : (M.bind (dctD i) g) env = some rs) : ∃ ks, env[i]? = some (some (.dct ks)) ∧ g ks env = some rs := by
  have key : ∀ z, dctD i env = some z → ∃ ks, env[i]? = some (some (.dct ks)) ∧ z = .ok ks env := fun z hz => by
    unfold dctD at hz
    split at hz
    · rename_i ks hx
      cases hz
      exact ⟨ks, hx, rfl⟩
    · cases hz
  rcases bind_some h with ⟨a, e, h1, h2⟩ | ⟨C, f, d, h1, h2⟩
  · obtain ⟨ds, e1, e2⟩ := key _ h1
    cases e2
    exact ⟨_, e1, h2⟩
  · obtain ⟨ds, e1, e2⟩ := key _ h1
    cases e2
theorem Rep.dget {B : Addr → Prop} {σ : St} {H : Hp} {env : En} {l : List Addr} {i : Nat} {ks : List Int} (r : Rep K B σ H env l) (hx : env[i]? = some (some (.dct ks))) :
    ∃ p, σ[i]? = some (some (.ref p)) ∧ H p = some (.dK (kvT ks)) ∧ p ∈ l ∧ ∀ ks', Rep K B σ (upd H p (.dK (kvT ks'))) (env.set i (some (.dct ks'))) l := by
  obtain ⟨s, a, lx, ly, q1, q2, ⟨v, rfl, p, rfl, rfl, q6⟩, q5⟩ := r.rp.focus hx
  have hp : p ∈ l := by rw [q2]; exact List.mem_append_right _ (List.mem_append_left _ (List.mem_cons_self ..))
  refine ⟨p, q1, q6, hp, fun ks' => ?_⟩
  have nd := r.nd
  rw [q2] at nd
  obtain ⟨n1, n2, n3⟩ := List.nodup_append.mp nd
  obtain ⟨n4, n5, n6⟩ := List.nodup_append.mp n2
  have sub : Same (off (un B l) H) (off (un B l) (upd H p (.dK (kvT ks')))) := off_mono (fun b z n => absurd z n) fun b o n e => by rw [upd_ne (fun z => n (.inr (by rw [z]; exact hp)))]; exact e
  refine ⟨?_, r.nd, r.out, fun b z => ?_⟩
  · have := q5 (H' := upd H p (.dK (kvT ks'))) (s' := some (.ref p)) (e' := some (.dct ks')) (a' := [p]) sub
      (fun q z => upd_ne fun e => n3 q z p (List.mem_append_left _ (List.mem_cons_self ..)) e) (fun q z => upd_ne fun e => n6 p (List.mem_cons_self ..) q z e.symm) ⟨_, rfl, p, rfl, rfl, upd_same⟩
    rw [set_same q1] at this
    rw [q2] at this ⊢
    exact this
  · obtain ⟨o, e, n⟩ := r.tb b z
    exact ⟨o, by rw [upd_ne (fun y => r.out p hp (by rw [← y]; exact z))]; exact e, n⟩
theorem kvT_val (ks : List Int) (k : Int) : (valV (kvT ks) (Sum.inl k)).isSome = decide (k ∈ ks) := by
  unfold valV kvT
  rw [Option.isSome_map]
  induction ks with
  | nil => rfl
  | cons x r ih =>
    rw [List.map_cons, List.find?_cons]
    by_cases e : x = k
    · subst e; simp
    · have : decide ((Sum.inl x : L2.Key) = Sum.inl k) = false := decide_eq_false fun z => e (Sum.inl.inj z)
      simp only [this]
      rw [ih]
      simp [Ne.symm e]
def putT (ks : List Int) (k : Int) : List Int := if k ∈ ks then ks else ks ++ [k]
theorem kvT_put (ks : List Int) (k : Int) : putK (kvT ks) (Sum.inl k) (.bl true) = kvT (putT ks k) := by
  unfold putK putT
  have ha : ((kvT ks).any fun kv => decide (kv.1 = (Sum.inl k : L2.Key))) = decide (k ∈ ks) := by
    unfold kvT
    induction ks with
    | nil => rfl
    | cons x r ih =>
      rw [List.map_cons, List.any_cons, ih]
      by_cases e : x = k
      · subst e; simp
      · have : decide ((Sum.inl x : L2.Key) = Sum.inl k) = false := decide_eq_false fun z => e (Sum.inl.inj z)
        simp only [this, Bool.false_or]
        simp [Ne.symm e]
  rw [ha]
  by_cases e : k ∈ ks
  · simp only [e, decide_true, if_true]
    unfold kvT
    rw [List.map_map]
    refine List.map_congr_left fun x _ => ?_
    show (if (Sum.inl x : L2.Key) = Sum.inl k then _ else _) = _
    split <;> rfl
  · simp only [e, decide_false, if_false, Bool.false_eq_true]
    unfold kvT
    rw [List.map_append]
    rfl
def dinT (n : Bool) (i : Nat) (fk : M R) : M Bool := M.bind fk fun r => M.bind (lift (asI r)) fun k => M.bind (dctD i) fun ks => M.pure (n ^^ decide (k ∈ ks))
theorem OkT.din {i : Nat} {tk : TE} {fk : M R} (o : OkE K E tk fk) : OkT K E (tB (tDIn tk (tVar i))) (dinT false i fk) := by
  refine ⟨?_⟩
  intro B σ H env l rs rp h Q post
  refine o.seq rp h post.exn fun a e v H1 h1 r1 f1 q1 => ?_
  obtain ⟨k, h2, h3⟩ := lift_step h1
  obtain ⟨ks, hx, h4⟩ := dctD_step h3
  cases h4
  rw [asI_some h2] at q1
  cases q1
  obtain ⟨p, s1, s2, s3, _⟩ := r1.dget hx
  refine ⟨.ref p, s1, p, _, rfl, DGet.k (k := Sum.inl k) s2, _, rfl, ?_⟩
  rw [kvT_val]
  rw [Bool.false_xor] at post
  exact post H1 r1 f1
def dputS (i : Nat) (fk : M R) : M Fl := M.bind (dctD i) fun _ => M.bind fk fun r => M.bind (lift (asI r)) fun k => M.bind (dctD i) fun ks => M.bind (lift (chk (decide (ks.length < 1000)))) fun _ => M.bind (putM i (.dct (putT ks k))) fun _ => M.pure .nx
theorem OkS.dput {i : Nat} {tk : TE} {fk : M R} (o : OkE K E tk fk) : OkS K E bx (sDPut (tVar i) tk (tC (.bl true))) (dputS i fk) := by
  refine ⟨?_⟩
  intro B σ H env l rs rp h D post
  obtain ⟨ks0, hx0, h0⟩ := dctD_step h
  obtain ⟨p, s1, s2, s3, _⟩ := rp.dget hx0
  refine ⟨.ref p, s1, ?_⟩
  refine o.seq rp h0 post.exn fun a e v H1 h1 r1 f1 q1 => ?_
  obtain ⟨k, h2, h3⟩ := lift_step h1
  obtain ⟨ks, hx, h4⟩ := dctD_step h3
  obtain ⟨u, h4a, h4⟩ := lift_step h4
  have hn := of_decide_eq_true (chk_ok h4a)
  obtain ⟨_, h5⟩ := putM_step h4
  cases h5
  rw [asI_some h2] at q1
  cases q1
  obtain ⟨p', t1, t2, t3, t4⟩ := r1.dget hx
  rw [s1] at t1
  cases t1
  refine ⟨p, _, rfl, DPut.k (k := Sum.inl k) t2 ?_, ?_⟩
  · unfold kvT
    rw [List.length_map]
    exact small1000 (by omega)
  · rw [kvT_put]
    exact post σ _ l (t4 _) (Fr2.of (f1.trans (fr_upd t3))) fun _ => rfl
def sortDct (i : Nat) : M R := M.bind (dctD i) fun ks => M.bind (lift (chk (decide (ks.length < 64)))) fun _ => M.pure (.dat (.list ((sortI ks).map .int)))
theorem OkE.sortDct {i : Nat} : OkE K E (tCB (fun xs H Q => ∃ (a : Addr) (kvs : List (L2.Key × V)) (ks : List Int), xs = [.ref a] ∧ Rd H a (.dK kvs) ∧ kvs.map (·.1) = ks.map Sum.inl ∧ ks.length < 64 ∧
    ∀ (ys : List Int) (p : Addr), ys.Perm ks → ys.Pairwise (· ≤ ·) → H p = none → Q (.ref p) (upd H p (.lst (ys.map V.int)))) (tCons (tVar i) tNil)) (Ov.sortDct i) := by
  refine ⟨?_⟩
  intro B σ H env l rs rp h Q post
  obtain ⟨ks, hx, h0⟩ := dctD_step h
  obtain ⟨p, s1, s2, s3, _⟩ := rp.dget hx
  obtain ⟨u, h0a, h0⟩ := lift_step h0
  have hn := of_decide_eq_true (chk_ok h0a)
  · cases h0
    refine ⟨.ref p, s1, p, _, ks, rfl, .inl s2, ?_, hn, fun ys q pm pw hq => ?_⟩
    · unfold kvT
      rw [List.map_map]
      rfl
    · have : ys = sortI ks := sort_uniq (pm.trans (sortI_perm ks).symm) pw (sortI_pw ks)
      subst this
      exact post _ _ (rp.same (same_new hq _)) (Fr.of (same_new hq _)) (new_dp rp.tl hq (da_ints _)).1
end
end Ov
set_option Elab.async false
set_option linter.all false
set_option maxRecDepth 100000
set_option maxHeartbeats 4000000
namespace Ov
open PySem L2
/-! repr -/
section
variable {K : PySem.W.Frag} {E : XK} {bx : Nat}
theorem getD_da {G : Hp} {vs : List V} {ds : List PyData} (h : DaAll K G vs ds) {i : Nat} (hi : i < ds.length) : Da K G (vs.getD i .non) (ds.getD i .none) := by
  obtain ⟨x, e1, e2⟩ := daAll_get h (List.getElem?_eq_getElem hi)
  rw [List.getD_eq_getElem?_getD, List.getD_eq_getElem?_getD, e1, List.getElem?_eq_getElem hi]
  exact e2
theorem kw_da {n : Nat} {pi : List Nat} (hp : pi.all (· < n) = true) {G : Hp} {vs : List V} {ds : List PyData} (h : DaAll K G vs ds) (hn : ds.length = n) : DaAll K G (pi.map fun i => vs.getD i .non) (pi.map fun i => ds.getD i .none) := by
  induction pi with
  | nil => exact .nil
  | cons i r ih =>
    rw [List.all_cons, Bool.and_eq_true] at hp
    exact .cons (getD_da h (by have := of_decide_eq_true hp.1; omega)) (ih hp.2)
end
end Ov
namespace Ov
open PySem L2
theorem vacA {K : PySem.W.Frag} {vs : List V} {H : Hp} {Q : VK} {E : XK} (h : spA K (fun _ => none) vs H Q E) : False := by
  obtain ⟨B, ds, w, da, hB, hf, q⟩ := h
  cases hf
theorem vacB {K : PySem.W.Frag} {vs : List V} {H : Hp} {Q : VK} {E : XK} (h : spB K (fun _ _ => none) vs H Q E) : False := by
  obtain ⟨B, p, bv, bs, vs', ds, w, bs', rfl, hp, nB, db, da, hB, hf, q⟩ := h
  cases hf
end Ov
set_option Elab.async false
set_option linter.all false
set_option maxRecDepth 100000
set_option maxHeartbeats 4000000
namespace Ov
open PySem L2
/-! the rules whose reading names the written part, with that part given (a comprehension's block has it too) -/
section
variable {X : Cx} {K : PySem.W.Frag} (hK : X.K = K)
include hK
theorem k_len : CallR X (.builtin "len") (fun xs H Q => ∃ p ys, xs = [.ref p] ∧ (SqL K H p ys ∨ SqT K H p ys) ∧ Q (.int ys.length) H) := by subst hK; exact call_len_seq
theorem k_tup : CallR X (.type "tuple") (rTupW K) := by subst hK; exact call_tupW
theorem k_list : CallR X (.type "list") (fun xs H Q => ∃ p ys, xs = [.ref p] ∧ (SqL K H p ys ∨ SqT K H p ys) ∧ ∀ l, H l = none → Q (.ref l) (upd H l (.lst ys))) := by subst hK; exact call_list_of
theorem k_all (hc : X.calm = true) : CallR X (.builtin "all") (rAll K) := by subst hK; exact cr_all hc
theorem k_isi : CallR X (.builtin "isinstance") (rIsi K) := by subst hK; exact call_isi
theorem k_isiT : CallR X (.builtin "isinstance") (rIsiT K) := by subst hK; exact call_isiT
theorem k_in : OpR X (compareOp .In) (rIn K false) := by subst hK; exact op_in_seq
theorem k_eqD (hu : X.A.units + 64 < cLine) : OpR X (compareOp .Eq) (rEqD K) := by subst hK; exact op_eqD hu
theorem k_neD (hu : X.A.units + 64 < cLine) : OpR X (compareOp .NotEq) (rNeD K) := by subst hK; exact op_neD hu
theorem k_ix : IxR X (rIx K) := by subst hK; exact ix_seq
theorem k_revW {e : Expr} {te : TE} {k : Nat} {p1 p2 p3 pos : Pos} (he : PE X e te) : PE X (.Subscript e (.Slice none none (some (.UnaryOp .USub (.Constant (.int 1) k p1) p2)) p3) pos) (tRevW K te) := by subst hK; exact pe_revW he
theorem k_lenSet {a : Expr} {ta : TE} {p p2 q pos : Pos} (hc : X.calm = true) (hg : Gl X "len") (hm : X.mg "len" = none) (hg2 : Gl X "set") (hm2 : X.mg "set" = none) (ha : PE X a ta)
    (na : starEach [a] X.env = (false, eval a X.env) :: starEach [] X.env := by rfl) : PE X (.Call (.Name "len" p) [.Call (.Name "set" p2) [a] [] q] [] pos) (tLenSetT K ta) := by subst hK; exact pe_lenSetT hc hg hm hg2 hm2 ha na
theorem k_seq {tg l : Expr} {tl : TE} (hl : PE X l tl) : PI X tg l (iSeq K tl) := by subst hK; exact pi_seq hl
theorem k_bm {T id : String} {o e : Expr} {es : List Expr} {to : TE} {t : TA} {name : Str} {apos cpos : Pos} {r : V → List V → Hp → VK → Prop} (pa : PlainAttrs T) (slot : Slot T name id) (hty : typeOf (.builtin id) = pure (.type "method_descriptor")) (hm : MtR X id r) (ho : PE X o to) (ha : PA X (e :: es) t)
    (hbase : attributeBase o name X.env (eval o X.env) = eval o X.env := by rfl)
    (hfew : ((backTo cpos (starEach (e :: es) X.env)).all (fun x => !x.1) && (backToKw cpos (keywordEach [] X.env)).all (fun x => x.1.isSome)
      && decide ((e :: es).length + ([] : List Keyword).length + (if ([] : List Keyword).isEmpty then 0 else 1) < 30)) = true := by rfl)
    (hline : (apos.endLine == cpos.line) = true := by rfl) (hs : starEach (e :: es) X.env = (false, eval e X.env) :: starEach es X.env := by rfl) (hplain : (backTo cpos (starEach es X.env)).any (·.1) = false := by rfl) :
    PE X (.Call (.Attribute o name apos) (e :: es) [] cpos) (tBM K T r to t) := by subst hK; exact pe_bm pa slot hty hm ho ha hbase hfew hline hs hplain
end
section
variable {K : PySem.W.Frag} {E : XK}
/-- xs + ys as a list of one's own -/
def catW (fa fb : M R) : M Wv := M.bind fa fun a => M.bind fb fun b => M.bind (vw a) fun x => M.bind (vw b) fun y => M.bind (lift (catD x y)) fun d => M.bind (lift (match d with | .list ds => some ds | _ => none)) fun ds => M.pure (.own (dats ds))
theorem OkW.cat {ta tb : TE} {fa fb : M R} (oa : OkE K E ta fa) (ob : OkE K E tb fb) : OkW K E (tOp (rCatL K) ta tb) (catW fa fb) := by
  refine ⟨?_⟩
  intro B σ H env l rs rp h Q post
  refine oa.seq rp h post.exn fun a e v1 H1 h1 r1 f1 q1 => ?_
  refine ob.seq r1 h1 (exn_later post.exn f1) fun b e2 v2 H2 h2 r2 f2 q2 => ?_
  obtain ⟨x, h3, w1⟩ := vw_step r2 (q1.mv f2.keep) h2
  obtain ⟨y, h4, w2⟩ := vw_step r2 q2 h3
  obtain ⟨d, h5, h6⟩ := lift_step h4
  obtain ⟨ds, h7, h8⟩ := lift_step h6
  cases h8
  unfold catD at h5
  split at h5
  · obtain ⟨u, e1, e2'⟩ := Option.map_eq_some_iff.mp h5
    subst e2'
    cases h7
    obtain ⟨p, vs, rfl, hq, h3'⟩ := vw_list w1
    obtain ⟨p', vs', rfl, hq', h3''⟩ := vw_list w2
    refine ⟨p, p', vs, vs', rfl, rfl, hq, hq', by rw [daAll_len h3', daAll_len h3'']; exact sz_ok e1, fun r hr => ?_⟩
    obtain ⟨n1, n2⟩ := new_own r2 hr (daAll_append h3' h3'')
    exact post _ _ [r] n1 ((f1.trans f2).trans (Fr.of (same_new hr _))) n2 (List.nodup_cons.mpr ⟨by simp, List.nodup_nil⟩) (fresh_back r2 (f1.trans f2) hr)
  · cases h5
end
end Ov
set_option Elab.async false
set_option linter.all false
set_option maxRecDepth 100000
set_option maxHeartbeats 4000000
set_option Elab.async false
set_option linter.all false
set_option maxRecDepth 100000
set_option maxHeartbeats 4000000
namespace Ov
open PySem L2 PySem.Spec PyProof.Rows
/-! zip of two sequences, each a list or a tuple -/
def SqB (t : Bool) (K : PySem.W.Frag) (H : Hp) (a : Addr) (xs : List V) : Prop := match t with
  | true => SqT K H a xs
  | false => SqL K H a xs
def ItB (t : Bool) (h : Heap) (it l : Addr) (k : Nat) : Prop := match t with
  | true => h.IsTupleIter it l k
  | false => h.IsListIter it l k
def SeB (t : Bool) (h : Heap) (l : Addr) (its : Array Value) : Prop := match t with
  | true => h.IsTuple l its
  | false => h.IsList l its
def itO (t : Bool) (l : Addr) : Obj := { cls := .type (match t with | true => "tuple_iterator" | false => "list_iterator"), data := .fields #[.ref l, .int 0 0] }
theorem drB {P : Program} {w : World} {A : Around} (t : Bool) (no : A.handled = none) (it l : Addr) (ne : l ≠ it) (its : Array Value) :
    Draws P w A it [it, l] its.size (fun i v => its[i]? = some v) (fun i h => ItB t h it l i ∧ SeB t h l its) := by
  cases t with
  | true => exact Draws.tuple no it l ne its
  | false => exact Draws.list no it l ne its
theorem bgB (t : Bool) (l : Addr) (its : Array Value) : Begins (.ref l) (itO t l) (fun h => SeB t h l its) := by
  cases t with
  | true => exact begins_tuple l its
  | false => exact begins_list l its
theorem ItB.new {t : Bool} {h : Heap} {it l : Addr} (e : h.get? it = some (itO t l)) : ItB t h it l 0 := by
  cases t with
  | true => exact ⟨_, e, rfl, rfl⟩
  | false => exact ⟨_, e, rfl, rfl⟩
theorem ItB.up {t : Bool} {h h' : Heap} {it l : Addr} {k : Nat} (x : ItB t h it l k) (f : ∀ o, h.get? it = some o → h'.get? it = some o) : ItB t h' it l k := by
  cases t with
  | true => exact Heap.IsTupleIter.at x f
  | false => exact Heap.IsListIter.at x f
theorem ItB.ob {t : Bool} {h : Heap} {it l : Addr} {k : Nat} (x : ItB t h it l k) : ∃ o, h.get? it = some o ∧ ∀ v, o.data ≠ .cell v := by
  cases t with
  | true => obtain ⟨o, e, _, d⟩ := x; exact ⟨o, e, fun v z => by rw [d] at z; cases z⟩
  | false => obtain ⟨o, e, _, d⟩ := x; exact ⟨o, e, fun v z => by rw [d] at z; cases z⟩
theorem SeB.lt {t : Bool} {h : Heap} {l : Addr} {its : Array Value} (x : SeB t h l its) : l < h.objs.size := by
  cases t with
  | true => obtain ⟨o, e, _⟩ := x; exact Heap.lt_size e
  | false => obtain ⟨o, e, _⟩ := x; exact Heap.lt_size e
section
variable {X : Cx} {pins : List (Addr × Obj)} {σ : L2.St} {H : Hp} {s : Shared} {t : Bool} {a : Addr} {xs ys : List V}
theorem SqB.read (I : Inv X pins σ H s) (h : SqB t X.K H a xs) : ∃ its : List Value, Vals xs its ∧ SeB t s.heap a its.toArray := by
  cases t with
  | true => obtain ⟨its, r, p, _⟩ := I.tuple h; exact ⟨its, r, p⟩
  | false => obtain ⟨its, r, p, _⟩ := I.list h; exact ⟨its, r, p.isList⟩
theorem SqB.inj (I : Inv X pins σ H s) (h : SqB t X.K H a xs) (h' : SqB t X.K H a ys) : xs = ys := by
  cases t with
  | true => exact I.tuple_inj h h'
  | false => exact I.list_inj h h'
end
def ItzB (t u : Bool) (K : PySem.W.Frag) (a b : Addr) : It where
  go := fun i H => ∃ (xs ys : List V) (x y : V), SqB t K H a xs ∧ SqB u K H b ys ∧ xs[i]? = some x ∧ ys[i]? = some y
  yld := fun i H v H' => ∃ (p : Addr) (x y : V) (o : Obj), v = .ref p ∧ H p = none ∧ o.dict = none ∧ H' = upd H p (.frz o (.tup [x, y])) ∧ (∀ xs, SqB t K H a xs → xs[i]? = some x) ∧ ∀ ys, SqB u K H b ys → ys[i]? = some y
  stop := fun i H => ∃ xs ys : List V, SqB t K H a xs ∧ SqB u K H b ys ∧ i ≤ xs.length ∧ i ≤ ys.length ∧ (xs.length = i ∨ ys.length = i)
theorem turn_zipB {P : Program} {w : World} {K : PySem.W.Frag} {tgs : List Expr} {kk : Nat} {tp : Pos} {t u : Bool} {a b z m n c d : Addr} (D : ZipSep2 z m n c d [c, a] [d, b]) (na : a ≠ c) (nb : b ≠ d) :
    Turn P w K (.Tuple tgs kk tp) (ItzB t u K a b) [z, m, n, c, d] z (fun i h => IsZip h z m n .none ∧ IsTupOf2 h m (.ref c) (.ref d) ∧ (∃ x y, IsTupOf2 h n x y) ∧ ItB t h c a i ∧ ItB u h d b i) where
  mem := by simp
  obj := fun i h st e he => by
    obtain ⟨q1, q2, ⟨x, y, q3⟩, q4, q5⟩ := st
    simp only [List.mem_cons, List.not_mem_nil, or_false] at he
    rcases he with rfl | rfl | rfl | rfl | rfl
    · exact ⟨_, q1, fun v r => nomatch r⟩
    · exact ⟨_, q2, fun v r => nomatch r⟩
    · exact ⟨_, q3, fun v r => nomatch r⟩
    · exact q4.ob
    · exact q5.ob
  keep := fun i h h' st k => by
    obtain ⟨q1, q2, ⟨x, y, q3⟩, q4, q5⟩ := st
    exact ⟨k _ (by simp) _ q1, k _ (by simp) _ q2, ⟨x, y, k _ (by simp) _ q3⟩, q4.up fun o e => k _ (by simp) o e, q5.up fun o e => k _ (by simp) o e⟩
  item := by
    intro X eP ew eK calm i pins s σ H E I ff st hg
    subst eP ew eK
    obtain ⟨q1, q2, ⟨x0, y0, q3⟩, q4, q5⟩ := st
    obtain ⟨xs, ys, x, y, hX, hY, ex, ey⟩ := hg
    obtain ⟨is, rx, px⟩ := hX.read I
    obtain ⟨js, ry, py⟩ := hY.read I
    obtain ⟨v1, e1, r1⟩ := rx.get ex
    obtain ⟨v2, e2, r2⟩ := ry.get ey
    have lz : z < s.heap.objs.size := Heap.lt_size q1
    have no := I.ok.hd calm
    have b1 : i < is.toArray.size := by simpa using (List.getElem?_eq_some_iff.mp e1).1
    have b2 : i < js.toArray.size := by simpa using (List.getElem?_eq_some_iff.mp e2).1
    refine wpAny_pyNext_zipD2_item D (drB t (A := X.A.in1) no c a na is.toArray) (drB u (A := X.A.in1) no d b nb js.toArray) q1 q2 q3 ⟨q4, px⟩ ⟨q5, py⟩ b1 b2 ?_
    intro w1 w2 h' tk p1 p2 z' n' s1 s2 nw hsz hk
    have c1 : w1 = v1 := Option.some.inj ((show is.toArray[i]? = some w1 from p1).symm.trans (by simpa using e1))
    have c2 : w2 = v2 := Option.some.inj ((show js.toArray[i]? = some w2 from p2).symm.trans (by simpa using e2))
    subst c1 c2
    refine ⟨_, rfl, wpAny_letOwnedTupleGo_zip (s := { s with heap := h', toks := tk }) z' fun h'' z'' sb => ?_⟩
    have nw2 : h''.get? s.heap.objs.size = some { cls := .type "tuple", data := .seq #[w1, w2] } := (sb.2 _ (Nat.ne_of_gt lz)).trans nw
    have ok : ObjOk X.prog X.w (upd H s.heap.objs.size (.frz (bo [w1, w2]) (.tup [x, y]))) h'' s.heap.objs.size (.frz (bo [w1, w2]) (.tup [x, y])) := bo_ok nw2 (.cons r1 (.cons r2 .nil)) (by show 2 ≤ sizeLine; decide)
    have I1 : Inv X pins σ (upd H s.heap.objs.size (.frz (bo [w1, w2]) (.tup [x, y]))) { s with heap := h'', toks := tk } := by
      refine I.turnedNew (t' := tk) (ch := [z, m, n, c, d]) (fun e o he f => ?_) ff (Nat.le_refl _) ok
      simp only [List.mem_cons, List.not_mem_nil, or_false, not_or] at he
      exact (sb.2 e he.1).trans (hk e o he.1 he.2.2.1 he.2.2.2.1 he.2.2.2.2 f)
    have zc : c ≠ z := fun e => D.zi1 e.symm
    have zd : d ≠ z := fun e => D.zi2 e.symm
    refine ⟨.ref s.heap.objs.size, _, I1, rfl, ⟨_, x, y, _, rfl, I.hok.fresh (Nat.le_refl _), rfl, rfl, fun l hl => by rw [hl.inj I hX]; exact ex, fun l hl => by rw [hl.inj I hY]; exact ey⟩, ⟨z'', ?_, ⟨w1, w2, ?_⟩, ?_, ?_⟩, fun e he => ?_⟩
    · exact (sb.2 _ D.TIz).trans (hk _ _ D.TIz D.TITO D.TIi1 D.TIi2 q2)
    · exact (sb.2 _ D.TOz).trans n'
    · exact s1.1.up fun o f => (sb.2 _ zc).trans f
    · exact s2.1.up fun o f => (sb.2 _ zd).trans f
    · obtain ⟨o, f, _⟩ : ∃ o, s.heap.get? e = some o ∧ True := by
        simp only [List.mem_cons, List.not_mem_nil, or_false] at he
        rcases he with rfl | rfl | rfl | rfl | rfl
        · exact ⟨_, q1, trivial⟩
        · exact ⟨_, q2, trivial⟩
        · exact ⟨_, q3, trivial⟩
        · obtain ⟨o, f, _⟩ := q4.ob; exact ⟨o, f, trivial⟩
        · obtain ⟨o, f, _⟩ := q5.ob; exact ⟨o, f, trivial⟩
      rw [upd_ne (Nat.ne_of_lt (Heap.lt_size f))]
      exact (ff e he).1
  done := by
    intro X eP ew eK calm i pins s σ H E I ff st hg
    subst eP ew eK
    obtain ⟨q1, q2, ⟨x0, y0, q3⟩, q4, q5⟩ := st
    obtain ⟨xs, ys, hX, hY, l1, l2, over⟩ := hg
    obtain ⟨is, rx, px⟩ := hX.read I
    obtain ⟨js, ry, py⟩ := hY.read I
    have no := I.ok.hd calm
    have g1 := rx.length
    have g2 := ry.length
    refine wpAny_pyNext_zipD2_end D (drB t (A := X.A.in1) no c a na is.toArray) (drB u (A := X.A.in1) no d b nb js.toArray) q1 q2 q3 ⟨q4, px⟩ ⟨q5, py⟩ (by rw [List.size_toArray]; omega) (by rw [List.size_toArray]; omega) ?_ fun h' tk hk => ⟨rfl, ?_⟩
    · rw [List.size_toArray, List.size_toArray]
      omega
    · refine I.turnedL (t' := tk) (ch := [z, m, n, c, d]) (fun e o he f => ?_) ff
      simp only [List.mem_cons, List.not_mem_nil, or_false, not_or] at he
      exact hk e o he.1 he.2.2.1 he.2.2.2.1 he.2.2.2.2 f
  self := fun A i s Q E st h => wpAny_pyIter_zip st.1 h
end Ov
set_option Elab.async false
set_option linter.all false
set_option maxRecDepth 100000
set_option maxHeartbeats 4000000
namespace Ov
open PySem L2 PySem.Spec PyProof.Rows
def iZipB (K : PySem.W.Frag) (ta : TA) : TI := fun σ H R => ta σ H fun vs H1 => ∃ (t u : Bool) (a b : Addr) (xs ys : List V), vs = [.ref a, .ref b] ∧ SqB t K H1 a xs ∧ SqB u K H1 b ys ∧ R (ItzB t u K a b) H1
theorem pi_zipB {X : Cx} {e1 e2 : Expr} {ta : TA} {p0 p1 p2 : Pos} {tgs : List Expr} {kk : Nat} (gl : Gl X "zip") (un : X.mg "zip" = none) (ha : PA X [e1, e2] ta)
    (st : starEach [e1, e2] X.env = (false, eval e1 X.env) :: starEach [e2] X.env := by rfl) (pl : (backTo p1 (starEach [e2] X.env)).any (·.1) = false := by rfl) :
    PI X (.Tuple tgs kk p2) (.Call (.Name "zip" p0) [e1, e2] [] p1) (iZipB X.K ta) := by
  refine ⟨fun pins s σ H R I h => ?_⟩
  refine Call_ (ld_blt I gl un boot_zip (callWith_type1 (thn (ha.run p1 pins s σ H _ I h) ?_) st pl))
  rintro us s1 ⟨vs, H1, J, rel, t, u, a, b, xs, ys, rfl, hX, hY, q⟩
  obtain ⟨v1, v2, rfl, r1, r2⟩ : ∃ v1 v2, us = [v1, v2] ∧ v1 = Value.ref a ∧ v2 = Value.ref b := by
    cases rel with
    | cons r rr => cases rr with | cons r' rr => cases rr; exact ⟨_, _, rfl, r, r'⟩
  subst r1 r2
  obtain ⟨is, _, px⟩ := hX.read J
  obtain ⟨js, _, py⟩ := hY.read J
  have la := px.lt
  have lb := py.lt
  refine zip_begins2 (bgB t a is.toArray) (bgB u b js.toArray) px py fun h' z m n c d _ hk => wpAny_pyIter_zip z ?_
  have J2 : Inv X pins σ H1 { s1 with heap := h' } := J.kept (t' := s1.toks) hk
  have sep : ZipSep2 (s1.heap.objs.size + 4) (s1.heap.objs.size + 2) (s1.heap.objs.size + 3) s1.heap.objs.size (s1.heap.objs.size + 1) [s1.heap.objs.size, a] [s1.heap.objs.size + 1, b] := zip_sep2 (fp1 := [a]) (fp2 := [b]) (fun e he => by rw [List.mem_singleton.mp he]; exact la) (fun e he => by rw [List.mem_singleton.mp he]; exact lb)
  refine ⟨_, [s1.heap.objs.size + 4, s1.heap.objs.size + 2, s1.heap.objs.size + 3, s1.heap.objs.size, s1.heap.objs.size + 1], _, _, H1, rfl, J2, turn_zipB sep (Nat.ne_of_lt la) (Nat.ne_of_lt (Nat.lt_succ_of_lt lb)), ⟨z, m, ⟨_, _, n⟩, .new c, .new d⟩, fun e he => ?_, q⟩
  have le : s1.heap.objs.size ≤ e := by
    simp only [List.mem_cons, List.not_mem_nil, or_false] at he
    rcases he with rfl | rfl | rfl | rfl | rfl
    · exact Nat.le_add_right _ _
    · exact Nat.le_add_right _ _
    · exact Nat.le_add_right _ _
    · exact Nat.le_refl _
    · exact Nat.le_add_right _ _
  exact J.fpOk le (J.hok.fresh le)
section
variable {K : PySem.W.Frag} {E : XK} {t u : Bool} {a b : Addr} {xs ys : List V}
theorem SqB.same {H H' : Hp} (s : Same H H') (h : SqB t K H a xs) : SqB t K H' a xs := by
  cases t with
  | true => exact seqT s h
  | false => exact rd_same s h
theorem da_sq {G : Hp} {v : V} {d : PyData} {ds : List PyData} (h : Da K G v d) (e : seqD d = some ds) : ∃ (t : Bool) (p : Addr) (vs : List V), v = .ref p ∧ SqB t K G p vs ∧ DaAll K G vs ds := by
  cases h with
  | lst q r => cases e; exact ⟨false, _, _, rfl, q, r⟩
  | tup q r => cases e; exact ⟨true, _, _, rfl, q.sq, r⟩
  | dct _ _ _ _ => cases e
  | dtk _ _ _ _ => cases e
  | non => cases e
  | bl _ => cases e
  | int _ => cases e
  | str _ => cases e
theorem walk_zipB {n : Nat} (hn : n = min xs.length ys.length) : Walk (ItzB t u K a b) n (fun H => SqB t K H a xs ∧ SqB u K H b ys) (YPairB (fun i => xs[i]?) (fun i => ys[i]?)) := by
  subst hn
  refine ⟨fun i H hi q => ?_, fun H q => ⟨xs, ys, q.1, q.2, by omega, by omega, by omega⟩, fun i H v H' _ q y => ?_⟩
  · have k1 : i < xs.length := by omega
    have k2 : i < ys.length := by omega
    exact ⟨xs, ys, xs[i], ys[i], q.1, q.2, List.getElem?_eq_getElem k1, List.getElem?_eq_getElem k2⟩
  · obtain ⟨T, x, y', o, g1, g2, g0, g3, g4, g5⟩ := y
    exact ⟨T, x, y', o, g1, g2, g0, g3, g4 _ q.1, g5 _ q.2⟩
def zipM (as : List PyData) : Option (List PyData) :=
  match as with
  | [x, y] => (seqD x).bind fun ds => (seqD y).map fun es => pairUp ds es
  | _ => none
theorem OkI.zipB {t : TA} {fa : M (List R)} (o : OkA K E t fa) : OkI K E (iZipB K t) (argI zipM fa) := by
  refine ⟨?_⟩
  intro B σ H env l rs rp h R post
  refine o.seq rp h post.exn fun a e v H1 h1 r1 f1 q1 => ?_
  obtain ⟨ds, h2, h3⟩ := lift_step h1
  obtain ⟨out, h4, h5⟩ := lift_some h3
  subst h5
  have da := dds_ok q1 h2
  unfold zipM at h4
  split at h4
  · obtain ⟨es, e1, e2⟩ := Option.bind_eq_some_iff.mp h4
    obtain ⟨gs, e3, e4⟩ := Option.map_eq_some_iff.mp e2
    subst e4
    cases da with
    | cons d1 t1 =>
      cases t1 with
      | cons d2 t2 =>
        cases t2
        obtain ⟨k1, p, ws, rfl, qa, ha⟩ := da_sq d1 e1
        obtain ⟨k2, p', ws', rfl, qb, hb⟩ := da_sq d2 e3
        refine ⟨k1, k2, p, p', ws, ws', rfl, qa.same (off_sub _ _), qb.same (off_sub _ _), post _ H1 _ _ r1 f1 (walk_zipB (by rw [pair_len, daAll_len ha, daAll_len hb])) (fun H2 f => ⟨(qa.same f.keep).same (off_sub _ _), (qb.same f.keep).same (off_sub _ _)⟩) ?_⟩
        rintro i x H2 H3 d S fr ⟨T, u, w, o', rfl, hT, od, g3, g4, g5⟩ hd hs hS
        obtain ⟨x1, y1, j1, j2, rfl⟩ := pair_get hd
        obtain ⟨u', m1, m2⟩ := daAll_get ha j1
        obtain ⟨w', m3, m4⟩ := daAll_get hb j2
        cases m1.symm.trans g4
        cases m3.symm.trans g5
        exact pair_da (B := B) (l := l) (H1 := H1) hS hT od g3 (m2.walk fr hs) (m4.walk fr hs)
  · cases h4
theorem OkI.zipA {t : TA} {fa : M (List R)} (o : OkA K E t fa) : OkI K E (iZipB K t) (argI zipD fa) := by
  refine ⟨?_⟩
  intro B σ H env l rs rp h R post
  have k : ∀ a x, zipD a = some x → zipM a = some x := fun a x h => by
    unfold zipD at h
    split at h <;> first | exact h | cases h
  refine (OkI.zipB o).run rp ?_ post
  rw [← h]
  have h' : argI zipD fa env = some rs := h
  unfold argI M.bind lift at h' ⊢
  cases e1 : fa env with
  | none => rfl
  | some r =>
    cases r with
    | ex _ _ _ => rfl
    | ok a e =>
      rw [e1] at h'
      cases e2 : dds a with
      | none => simp [e2] at h'
      | some ds =>
        cases e3 : zipD ds with
        | none => simp [e2, e3] at h'
        | some out => simp [e2, e3, k _ _ e3]
end
section
variable {X : Cx} {K : PySem.W.Frag} (hK : X.K = K)
include hK
theorem k_zipB {e1 e2 : Expr} {ta : TA} {p0 p1 p2 : Pos} {tgs : List Expr} {kk : Nat} (gl : Gl X "zip") (un : X.mg "zip" = none) (ha : PA X [e1, e2] ta)
    (st : starEach [e1, e2] X.env = (false, eval e1 X.env) :: starEach [e2] X.env := by rfl) (pl : (backTo p1 (starEach [e2] X.env)).any (·.1) = false := by rfl) :
    PI X (.Tuple tgs kk p2) (.Call (.Name "zip" p0) [e1, e2] [] p1) (iZipB K ta) := by subst hK; exact pi_zipB gl un ha st pl
end
end Ov
set_option Elab.async false
set_option linter.all false
set_option maxRecDepth 100000
set_option maxHeartbeats 4000000
namespace Ov
open PySem L2 PySem.Spec PyProof.Rows
/-! a zip whose last pair is kept by somebody: it makes a new one each time -/
section
variable {P : Program} {w : World} {A : Around} {E : Value → Shared → Prop} {s : Shared} {z m n c d T : Addr} {fp gp : List Addr} {n1 n2 i : Nat} {P1 P2 : Nat → Value → Prop} {S1 S2 : Nat → Heap → Prop} {f : Bool} {oT : Obj}
theorem zh_run {Q : Fin → Shared → Prop} (D : ZipSep2 z m n c d fp gp) (D1 : Draws P w A c fp n1 P1 S1) (D2 : Draws P w A d gp n2 P2 S2) (hz : IsZipHeld s.heap z m n T f) (hT : s.heap.get? T = some oT) (hm : IsTupOf2 s.heap m (.ref c) (.ref d)) (a1 : S1 i s.heap) (a2 : S2 i s.heap)
    (h : ∀ h1, IsZipHeld h1 z m n T true → Heap.SameBut z s.heap h1 → S1 i h1 → S2 i h1 → wpAny (model P w) A (Builtin.SmallTypes.nextOf (.ref c)) (fun x s2 => wpAny (model P w) A (Builtin.SmallTypes.nextOf (.ref d)) (fun y s3 => wpAny (model P w) A (newTuple [x, y]) (fun v s4 => Q (.done (.ret v)) s4) E s3) E s2) E { s with heap := h1 }) :
    wpAny (model P w) A (Builtin.«zip.__next__» ⟨[.ref z], []⟩) Q E s := by
  show wpAny _ _ (field (.ref z) 2 >>= _) _ _ _
  refine wpAny_bind (wpAny_field hz rfl (x := .bool false) rfl (show wpAny _ _ (field (.ref z) 3 >>= _) _ _ _ from ?_))
  refine wpAny_bind (wpAny_field hz rfl (x := .ref m) rfl (wpAny_bind (wpAny_seqItems hm rfl ?_)))
  refine (show wpAny _ _ (Builtin.SmallTypes.ownedTupleIsFree (.ref z) >>= _) _ _ _ from wpAny_bind (wpAny_tupleHeld_zip hz hT fun h1 z1 e1 => ?_))
  simp only [Bool.false_eq_true, if_false]
  refine wpAny_bind ?_
  rw [← Array.forIn_toList]
  simp only [List.forIn_cons, List.forIn_nil]
  have b1 := D1.over a1 e1 D.zf1
  have b2 := D2.over a2 e1 D.zf2
  refine wpAny_bind (wpAny_bind (wpAny_holding (show wpAny _ _ (Builtin.SmallTypes.nextOf (.ref c) >>= _) _ _ _ from wpAny_bind (wpAny_mono (h h1 z1 e1 b1 b2) (fun x s2 k2 => ?_) fun _ _ k => k))))
  refine wpAny_pure (wpAny_pure (wpAny_bind (wpAny_bind (wpAny_holding (show wpAny _ _ (Builtin.SmallTypes.nextOf (.ref d) >>= _) _ _ _ from wpAny_bind (wpAny_mono k2 (fun y s3 k3 => ?_) fun _ _ k => k))))))
  refine wpAny_pure (wpAny_pure (wpAny_pure (show wpAny _ _ (newTuple [x, y] >>= _) _ _ _ from wpAny_bind (wpAny_mono k3 (fun v s4 k4 => wpAny_pure k4) fun _ _ k => k))))
theorem zh_item {Q : Option Value → Shared → Prop} (D : ZipSep2 z m n c d fp gp) (D1 : Draws P w A.in1 c fp n1 P1 S1) (D2 : Draws P w A.in1 d gp n2 P2 S2) (hz : IsZipHeld s.heap z m n T f) (hT : s.heap.get? T = some oT) (hm : IsTupOf2 s.heap m (.ref c) (.ref d)) (a1 : S1 i s.heap) (a2 : S2 i s.heap) (l1 : i < n1) (l2 : i < n2)
    (q : ∀ x y h' tk, P1 i x → P2 i y → IsZipHeld h' z m n T true → S1 (i + 1) h' → S2 (i + 1) h' → IsTupOf2 h' s.heap.objs.size x y → (∀ e o, e ≠ z → e ≠ c → e ≠ d → s.heap.get? e = some o → h'.get? e = some o) → Q (some (.ref s.heap.objs.size)) { s with heap := h', toks := tk }) :
    wpAny (model P w) A (pyNext (.ref z)) Q E s := by
  have ty : s.TypeIs (.ref z) "zip" := ⟨_, hz, rfl⟩
  unfold pyNext
  refine wpAny_bind (wpAny_attempt (wpAny_callSpecial?_slot (name := Str.ofString "__next__") ty F.slot_zip_next (wpAny_call_entry F.slot_zip_next ty F.entry_zip_next (zh_run D D1 D2 hz hT hm a1 a2 fun h1 z1 e1 b1 b2 => ?_) (F.args_zip_next_1 _))))
  refine D1.item i _ _ _ l1 b1 fun x h2 t2 p1 c1 e2 => D2.item i _ _ _ l2 (D2.over b2 e2 D.sep1_2) fun y h3 t3 p2 c2 e3 => wpAny_newTuple ⟨_, rfl, wpAny_pure ?_⟩
  have sz : h3.objs.size = s.heap.objs.size := e3.1.trans (e2.1.trans e1.1)
  have z3 : IsZipHeld h3 z m n T true := e3.extBut _ _ D.zi2 (e2.extBut _ _ D.zi1 z1)
  have up : ∀ e o, h3.get? e = some o → (h3.push { cls := .type "tuple", data := .seq #[x, y] }).get? e = some o := fun e o k => Heap.get?_push_of_some _ k
  have new : IsTupOf2 (h3.push { cls := .type "tuple", data := .seq #[x, y] }) h3.objs.size x y := Heap.get?_push_size _ rfl
  show Q (some (.ref h3.objs.size)) _
  rw [sz] at new ⊢
  exact q x y _ _ p1 p2 (up _ _ z3) (D1.frame _ _ _ (D1.over c1 e3 D.sep2_1) fun b _ o k => up b o k) (D2.frame _ _ _ c2 fun b _ o k => up b o k) new fun e o k1 k2 k3 k => up e o (e3.extBut _ _ k3 (e2.extBut _ _ k2 (e1.extBut _ _ k1 k)))
theorem zh_end {Q : Option Value → Shared → Prop} (D : ZipSep2 z m n c d fp gp) (D1 : Draws P w A.in1 c fp n1 P1 S1) (D2 : Draws P w A.in1 d gp n2 P2 S2) (hz : IsZipHeld s.heap z m n T f) (hT : s.heap.get? T = some oT) (hm : IsTupOf2 s.heap m (.ref c) (.ref d)) (a1 : S1 i s.heap) (a2 : S2 i s.heap) (l1 : i ≤ n1) (l2 : i ≤ n2) (l3 : i = n1 ∨ i = n2)
    (q : ∀ h' tk, (∀ e o, e ≠ z → e ≠ c → e ≠ d → s.heap.get? e = some o → h'.get? e = some o) → Q none { s with heap := h', toks := tk }) :
    wpAny (model P w) A (pyNext (.ref z)) Q E s := by
  have ty : s.TypeIs (.ref z) "zip" := ⟨_, hz, rfl⟩
  unfold pyNext
  refine wpAny_bind (wpAny_attempt (wpAny_callSpecial?_slot (name := Str.ofString "__next__") ty F.slot_zip_next (wpAny_call_entry F.slot_zip_next ty F.entry_zip_next (zh_run D D1 D2 hz hT hm a1 a2 fun h1 z1 e1 b1 b2 => ?_) (F.args_zip_next_1 _))))
  by_cases k1 : i = n1
  · subst k1
    refine D1.done _ _ _ b1 fun h2 e x2 ⟨o, ho, hc⟩ => wpAny_bind (wpAny_isInstance (T := "StopIteration") (b := true) ⟨o, ho, hc⟩ isSubtype_stop (wpAny_pure (q _ s.toks fun b o j1 j2 _ k => x2 _ _ j2 (e1.extBut _ _ j1 k))))
  · have k2 : i = n2 := l3.resolve_left k1
    subst k2
    refine D1.item i _ _ _ (by omega) b1 fun x h2 t2 p1 c1 e2 => D2.done _ _ _ (D2.over b2 e2 D.sep1_2) fun h3 e x3 ⟨o, ho, hc⟩ => ?_
    exact wpAny_bind (wpAny_isInstance (T := "StopIteration") (b := true) ⟨o, ho, hc⟩ isSubtype_stop (wpAny_pure (q _ _ fun b o j1 j2 j3 k => x3 _ _ j3 (e2.extBut _ _ j2 (e1.extBut _ _ j1 k)))))
end
end Ov
set_option Elab.async false
set_option linter.all false
set_option maxRecDepth 100000
set_option maxHeartbeats 4000000
namespace Ov
open PySem L2 PySem.Spec PyProof.Rows
/-! list(zip(a, b)) -/
def Zs (h : Heap) (H : Hp) (z m n : Addr) : Prop := (IsZip h z m n .none ∧ ∃ x y, IsTupOf2 h n x y) ∨ ∃ (T : Addr) (f : Bool) (x y : V), IsZipHeld h z m n T f ∧ TP H T [x, y]
structure Lz (X : Cx) (pins : List (Addr × Obj)) (σ : L2.St) (t u : Bool) (a b : Addr) (xs ys : List V) (z m n c d : Addr) (H0 : Hp) (i : Nat) (H : Hp) (s : Shared) : Prop where
  inv : Inv X pins σ H s
  fa : SqB t X.K H0 a xs
  fb : SqB u X.K H0 b ys
  base : Same H0 H
  free : ∀ e ∈ [z, m, n, c, d], FpOk X pins H e
  zs : Zs s.heap H z m n
  tm : IsTupOf2 s.heap m (.ref c) (.ref d)
  i1 : ItB t s.heap c a i
  i2 : ItB u s.heap d b i
section
variable {X : Cx} {pins : List (Addr × Obj)} {σ : L2.St} {t u : Bool} {a b z m n c d : Addr} {xs ys : List V} {H0 H : Hp} {i : Nat} {s : Shared} {A : Around} {E : Value → Shared → Prop}
theorem Lz.obj (L : Lz X pins σ t u a b xs ys z m n c d H0 i H s) : ∀ e ∈ [z, m, n, c, d], e = n ∨ ∃ o, s.heap.get? e = some o := fun e he => by
  simp only [List.mem_cons, List.not_mem_nil, or_false] at he
  rcases he with rfl | rfl | rfl | rfl | rfl
  · rcases L.zs with ⟨k, _⟩ | ⟨T, f, x, y, k, _⟩
    · exact .inr ⟨_, k⟩
    · exact .inr ⟨_, k⟩
  · exact .inr ⟨_, L.tm⟩
  · exact .inl rfl
  · obtain ⟨o, k, _⟩ := L.i1.ob; exact .inr ⟨o, k⟩
  · obtain ⟨o, k, _⟩ := L.i2.ob; exact .inr ⟨o, k⟩
theorem tup_live (I : Inv X pins σ H s) {T : Addr} {x y : V} (h : TP H T [x, y]) : ∃ o, s.heap.get? T = some o := by
  obtain ⟨o, e, _⟩ := h
  exact ⟨o, (I.hok _ _ e).1⟩
theorem Lz.item {Q : Option Value → Shared → Prop} {x y : V} (L : Lz X pins σ t u a b xs ys z m n c d H0 i H s) (hA : A.handled = none) (D : ZipSep2 z m n c d [c, a] [d, b]) (na : a ≠ c) (nb : b ≠ d) (ln : n < s.heap.objs.size) (ex : xs[i]? = some x) (ey : ys[i]? = some y)
    (q : ∀ (T : Addr) (o : Obj) (s' : Shared), H T = none → o.dict = none → n < s'.heap.objs.size → Lz X pins σ t u a b xs ys z m n c d H0 (i + 1) (upd H T (.frz o (.tup [x, y]))) s' → Q (some (.ref T)) s') : wpAny (model X.prog X.w) A (pyNext (.ref z)) Q E s := by
  obtain ⟨is, rx, px⟩ := (L.fa.same L.base).read L.inv
  obtain ⟨js, ry, py⟩ := (L.fb.same L.base).read L.inv
  obtain ⟨v1, e1, r1⟩ := rx.get ex
  obtain ⟨v2, e2, r2⟩ := ry.get ey
  have b1 : i < is.toArray.size := by simpa using (List.getElem?_eq_some_iff.mp e1).1
  have b2 : i < js.toArray.size := by simpa using (List.getElem?_eq_some_iff.mp e2).1
  have fr : H s.heap.objs.size = none := L.inv.hok.fresh (Nat.le_refl _)
  have lt : ∀ e ∈ [z, m, n, c, d], e < s.heap.objs.size := fun e he => by
    rcases L.obj e he with rfl | ⟨o, k⟩
    · exact ln
    · exact Heap.lt_size k
  have zc : c ≠ z := fun e => D.zi1 e.symm
  have zd : d ≠ z := fun e => D.zi2 e.symm
  have fin : ∀ (w1 w2 : Value) (h' : Heap) (tk : Nat), is.toArray[i]? = some w1 → js.toArray[i]? = some w2 → Zs h' (upd H s.heap.objs.size (.frz (bo [w1, w2]) (.tup [x, y]))) z m n → ItB t h' c a (i + 1) → ItB u h' d b (i + 1) → IsTupOf2 h' s.heap.objs.size w1 w2 →
      (∀ e o, e ≠ z → e ≠ n → e ≠ c → e ≠ d → s.heap.get? e = some o → h'.get? e = some o) → Q (some (.ref s.heap.objs.size)) { s with heap := h', toks := tk } := fun w1 w2 h' tk g1 g2 z' s1 s2 nw hk => by
    have c1 : w1 = v1 := Option.some.inj (g1.symm.trans (by simpa using e1))
    have c2 : w2 = v2 := Option.some.inj (g2.symm.trans (by simpa using e2))
    subst c1 c2
    have ok : ObjOk X.prog X.w (upd H s.heap.objs.size (.frz (bo [w1, w2]) (.tup [x, y]))) h' s.heap.objs.size (.frz (bo [w1, w2]) (.tup [x, y])) := bo_ok nw (.cons r1 (.cons r2 .nil)) (by show 2 ≤ sizeLine; decide)
    have I1 : Inv X pins σ (upd H s.heap.objs.size (.frz (bo [w1, w2]) (.tup [x, y]))) { s with heap := h', toks := tk } := by
      refine L.inv.turnedNew (t' := tk) (ch := [z, m, n, c, d]) (fun e o he k => ?_) L.free (Nat.le_refl _) ok
      simp only [List.mem_cons, List.not_mem_nil, or_false, not_or] at he
      exact hk e o he.1 he.2.2.1 he.2.2.2.1 he.2.2.2.2 k
    refine q _ _ _ fr rfl (Nat.lt_trans ln (Heap.lt_size nw)) ⟨I1, L.fa, L.fb, L.base.trans (same_new fr _), fun e he => ⟨?_, (L.free e he).2⟩, z', hk _ _ D.TIz D.TITO D.TIi1 D.TIi2 L.tm, s1, s2⟩
    rw [upd_ne (Nat.ne_of_lt (lt e he))]
    exact (L.free e he).1
  rcases L.zs with ⟨k, x0, y0, k0⟩ | ⟨T, f, x0, y0, k, k0⟩
  · refine wpAny_pyNext_zipD2_item D (drB t (A := A.in1) hA c a na is.toArray) (drB u (A := A.in1) hA d b nb js.toArray) k L.tm k0 ⟨L.i1, px⟩ ⟨L.i2, py⟩ b1 b2 ?_
    intro w1 w2 h' tk p1 p2 z' n' s1 s2 nw hsz hk
    exact fin w1 w2 h' tk p1 p2 (.inr ⟨s.heap.objs.size, false, x, y, z', TP.new rfl⟩) s1.1 s2.1 nw hk
  · obtain ⟨oT, kT⟩ := tup_live L.inv k0
    refine zh_item D (drB t (A := A.in1) hA c a na is.toArray) (drB u (A := A.in1) hA d b nb js.toArray) k kT L.tm ⟨L.i1, px⟩ ⟨L.i2, py⟩ b1 b2 ?_
    intro w1 w2 h' tk p1 p2 z' s1 s2 nw hk
    refine fin w1 w2 h' tk p1 p2 (.inr ⟨T, true, x0, y0, z', ?_⟩) s1.1 s2.1 nw fun e o q1 _ q3 q4 => hk e o q1 q3 q4
    exact k0.same (same_new fr _)
theorem Lz.over {Q : Option Value → Shared → Prop} (L : Lz X pins σ t u a b xs ys z m n c d H0 i H s) (hA : A.handled = none) (D : ZipSep2 z m n c d [c, a] [d, b]) (na : a ≠ c) (nb : b ≠ d) (l1 : i ≤ xs.length) (l2 : i ≤ ys.length) (l3 : xs.length = i ∨ ys.length = i)
    (q : ∀ s', Inv X pins σ H s' → Q none s') : wpAny (model X.prog X.w) A (pyNext (.ref z)) Q E s := by
  obtain ⟨is, rx, px⟩ := (L.fa.same L.base).read L.inv
  obtain ⟨js, ry, py⟩ := (L.fb.same L.base).read L.inv
  have g1 := rx.length
  have g2 := ry.length
  have o1 : i ≤ is.toArray.size := by rw [List.size_toArray]; omega
  have o2 : i ≤ js.toArray.size := by rw [List.size_toArray]; omega
  have o3 : i = is.toArray.size ∨ i = js.toArray.size := by rw [List.size_toArray, List.size_toArray]; omega
  have fin : ∀ (h' : Heap) (tk : Nat), (∀ e o, e ≠ z → e ≠ n → e ≠ c → e ≠ d → s.heap.get? e = some o → h'.get? e = some o) → Q none { s with heap := h', toks := tk } := fun h' tk hk => by
    refine q _ (L.inv.turnedL (t' := tk) (ch := [z, m, n, c, d]) (fun e o he k => ?_) L.free)
    simp only [List.mem_cons, List.not_mem_nil, or_false, not_or] at he
    exact hk e o he.1 he.2.2.1 he.2.2.2.1 he.2.2.2.2 k
  rcases L.zs with ⟨k, x0, y0, k0⟩ | ⟨T, f, x0, y0, k, k0⟩
  · exact wpAny_pyNext_zipD2_end D (drB t (A := A.in1) hA c a na is.toArray) (drB u (A := A.in1) hA d b nb js.toArray) k L.tm k0 ⟨L.i1, px⟩ ⟨L.i2, py⟩ o1 o2 o3 fun h' tk hk => fin h' tk hk
  · obtain ⟨oT, kT⟩ := tup_live L.inv k0
    exact zh_end D (drB t (A := A.in1) hA c a na is.toArray) (drB u (A := A.in1) hA d b nb js.toArray) k kT L.tm ⟨L.i1, px⟩ ⟨L.i2, py⟩ o1 o2 o3 fun h' tk hk => fin h' tk fun e o q1 _ q3 q4 => hk e o q1 q3 q4
/-- the list grows -/
theorem Lz.push (L : Lz X pins σ t u a b xs ys z m n c d H0 i H s) {S : Addr} {vs : List V} {v : V} {w1 : Value} (h0 : H0 S = none) (hS : H S = some (.lst vs)) (rv : RelV v w1) (hz : vs.length < sizeLine) (no : ∀ p x y, TP H p [x, y] → p ≠ S) {its : List Value} {k : Nat} (e : s.heap.get? S = some { cls := .type "list", data := .seq its.toArray k }) (r : Vals vs its) :
    Lz X pins σ t u a b xs ys z m n c d H0 i (upd H S (.lst (vs ++ [v]))) { s with heap := s.heap.update S (Obj.mapSeq (·.push w1)) } := by
  have ne : ∀ q ∈ [z, m, n, c, d], q ≠ S := fun q hq z' => by
    have := (L.free q hq).1
    rw [z', hS] at this
    cases this
  have up : ∀ q o, q ≠ S → s.heap.get? q = some o → (s.heap.update S (Obj.mapSeq (·.push w1))).get? q = some o := fun q o h k => (Heap.get?_update_other _ _ (Ne.symm h)).trans k
  refine ⟨L.inv.lset (its' := its ++ [w1]) (t' := s.toks) hS e (by simp) (r.append (.cons rv .nil)) (by rw [List.length_append, List.length_singleton]; omega), L.fa, L.fb, fun q o k => ?_, fun q hq => ⟨?_, (L.free q hq).2⟩, ?_, up _ _ (ne m (by simp)) L.tm, L.i1.up fun o k => up _ o (ne c (by simp)) k, L.i2.up fun o k => up _ o (ne d (by simp)) k⟩
  · rw [upd_ne (ne_of_none k h0)]
    exact L.base q o k
  · rw [upd_ne (ne q hq)]
    exact (L.free q hq).1
  · rcases L.zs with ⟨j, x0, y0, j0⟩ | ⟨T, f, x0, y0, j, j0⟩
    · exact .inl ⟨up _ _ (ne z (by simp)) j, x0, y0, up _ _ (ne n (by simp)) j0⟩
    · refine .inr ⟨T, f, x0, y0, up _ _ (ne z (by simp)) j, ?_⟩
      obtain ⟨o, e, d⟩ := id j0
      exact ⟨o, (upd_ne (no T x0 y0 j0)).trans e, d⟩
end
end Ov
set_option Elab.async false
set_option linter.all false
set_option maxRecDepth 100000
set_option maxHeartbeats 4000000
namespace Ov
open PySem L2 PySem.Spec PyProof.Rows
section
variable {X : Cx} {pins : List (Addr × Obj)} {σ : L2.St} {t u : Bool} {a b z m n c d : Addr} {xs ys : List V} {H0 H : Hp} {i : Nat} {s : Shared} {A : Around} {E : Value → Shared → Prop}
theorem Lz.ty (L : Lz X pins σ t u a b xs ys z m n c d H0 i H s) : s.TypeIs (.ref z) "zip" := by
  rcases L.zs with ⟨k, _⟩ | ⟨T, f, x, y, k, _⟩
  · exact ⟨_, k, rfl⟩
  · exact ⟨_, k, rfl⟩
/-- another state of the list -/
theorem Lz.at {S : Addr} {vs : List V} (L : Lz X pins σ t u a b xs ys z m n c d H0 i H s) (hS : H S = some (.lst vs)) {s' : Shared} (I' : Inv X pins σ H s') (k : ∀ q o, q ≠ S → s.heap.get? q = some o → s'.heap.get? q = some o) : Lz X pins σ t u a b xs ys z m n c d H0 i H s' := by
  have ne : ∀ q ∈ [z, m, n, c, d], q ≠ S := fun q hq e => by
    have := (L.free q hq).1
    rw [e, hS] at this
    cases this
  refine ⟨I', L.fa, L.fb, L.base, L.free, ?_, k _ _ (ne m (by simp)) L.tm, L.i1.up fun o e => k _ o (ne c (by simp)) e, L.i2.up fun o e => k _ o (ne d (by simp)) e⟩
  rcases L.zs with ⟨j, x0, y0, j0⟩ | ⟨T, f, x0, y0, j, j0⟩
  · exact .inl ⟨k _ _ (ne z (by simp)) j, x0, y0, k _ _ (ne n (by simp)) j0⟩
  · exact .inr ⟨T, f, x0, y0, k _ _ (ne z (by simp)) j, j0⟩
end
end Ov
set_option Elab.async false
set_option linter.all false
set_option maxRecDepth 100000
set_option maxHeartbeats 4000000
set_option Elab.async false
set_option linter.all false
set_option maxRecDepth 100000
set_option maxHeartbeats 4000000
namespace Ov
open PySem L2 PySem.Spec PyProof.Rows
/-! zip of three sequences, each a list or a tuple -/
section
variable {K : PySem.W.Frag} {E : XK} {t u o : Bool} {a b g : Addr} {xs ys zs : List V}
/-- a statement that the data never come to -/
def stuckS {α : Type} : M α := fun _ => none
theorem OkS.stuck {E : XK} {bx : Nat} : OkS K E bx tNever stuckS := ⟨fun _ h => by cases h⟩
end
end Ov
set_option Elab.async false
set_option linter.all false
set_option maxRecDepth 100000
set_option maxHeartbeats 4000000
namespace Ov
open PySem L2
/-! the plain functions, evaluated: every word applied to the slots -/
def cont {α β : Type} (o : Option (Rs α)) (f : α → M β) : Option (Rs β) :=
  match o with
  | none => none
  | some (.ok a e) => f a e
  | some (.ex C g d) => some (.ex C g d)
section
variable {α β : Type} {env e : En}
theorem v_bind (x : M α) (f : α → M β) : M.bind x f env = cont (x env) f := rfl
theorem v_ok (a : α) (f : α → M β) : cont (some (.ok a e)) f = f a e := rfl
theorem v_none (f : α → M β) : cont none f = none := rfl
theorem v_pure (a : α) : M.pure a env = some (.ok a env) := rfl
theorem v_lift (a : α) : lift (some a) env = some (.ok a env) := rfl
theorem v_liftN : lift (none : Option α) env = none := rfl
theorem v_con (d : PyData) : con d env = some (.ok (.dat d) env) := rfl
def gk (o : Option (Option Wv)) (i : Nat) : Option R :=
  match o with
  | some (some (.dat d)) => some (.dat d)
  | some (some (.own _)) => some (.slot i)
  | some (some (.exc C f d)) => some (.exc C f d)
  | some (some (.dct _)) => some (.slot i)
  | some (some (.lin _ _ _)) => some (.slot i)
  | some (some (.dci _)) => some (.slot i)
  | some (some (.dtk _)) => some (.slot i)
  | some (some (.dts _)) => some (.slot i)
  | some (some (.pin _ d)) => some (.dat d)
  | _ => none
theorem v_get (i : Nat) : get i env = lift (gk env[i]? i) env := by
  unfold get gk
  cases env[i]? with
  | none => rfl
  | some o => cases o with
    | none => rfl
    | some w => cases w <;> rfl
theorem v_gkd (d : PyData) (i : Nat) : gk (some (some (.dat d))) i = some (.dat d) := rfl
theorem v_gko (xs : List It1) (i : Nat) : gk (some (some (.own xs))) i = some (.slot i) := rfl
theorem v_gkc (xs : List Int) (i : Nat) : gk (some (some (.dct xs))) i = some (.slot i) := rfl
theorem v_vwd (d : PyData) : vw (.dat d) env = some (.ok d env) := rfl
def ok1 (o : Option (Option Wv)) : Option (List PyData) :=
  match o with
  | some (some (.own xs)) => itds xs
  | _ => none
theorem v_vws (i : Nat) : vw (.slot i) env = lift ((ok1 env[i]?).map .list) env := by
  unfold vw ok1 lift
  simp only
  cases env[i]? with
  | none => rfl
  | some o => cases o with
    | none => rfl
    | some w =>
      cases w with
      | own xs => simp only; cases itds xs <;> rfl
      | dat _ => rfl
      | exc _ _ _ => rfl
      | dct _ => rfl
      | lin _ _ _ => rfl
      | dci _ => rfl
      | dtk _ => rfl
      | dts _ => rfl
      | pin _ _ => rfl
      | dtn _ => rfl
      | dtd _ => rfl
      | nd _ => rfl
      | ndd _ => rfl
      | lkd _ => rfl
theorem v_ok1 (ds : List PyData) : ok1 (some (some (.own (dats ds)))) = some ds := itds_dats ds
theorem v_ownD (i : Nat) : ownD i env = lift (ok1 env[i]?) env := by
  unfold ownD ok1 lift
  cases env[i]? with
  | none => rfl
  | some o => cases o with
    | none => rfl
    | some w =>
      cases w with
      | own xs => simp only
      | dat _ => rfl
      | exc _ _ _ => rfl
      | dct _ => rfl
      | lin _ _ _ => rfl
      | dci _ => rfl
      | dtk _ => rfl
      | dts _ => rfl
      | pin _ _ => rfl
      | dtn _ => rfl
      | dtd _ => rfl
      | nd _ => rfl
      | ndd _ => rfl
      | lkd _ => rfl
def dk1 (o : Option (Option Wv)) : Option (List Int) :=
  match o with
  | some (some (.dct xs)) => some xs
  | _ => none
theorem v_dctD (i : Nat) : dctD i env = lift (dk1 env[i]?) env := by
  unfold dctD dk1 lift
  cases env[i]? with
  | none => rfl
  | some o => cases o with
    | none => rfl
    | some w => cases w <;> rfl
theorem v_dk1 (ks : List Int) : dk1 (some (some (.dct ks))) = some ks := rfl
theorem v_setOwn (i : Nat) (ds : List PyData) : setOwn i ds env = some (.ok () (env.set i (some (.own (dats ds))))) := rfl
theorem v_putM (i : Nat) (w : Wv) (h : i < env.length) : putM i w env = some (.ok () (env.set i (some w))) := if_pos h
theorem v_op2 (fo : PyData → PyData → Option PyData) (fa fb : M R) : op2 fo fa fb env = cont (fa env) fun a => M.bind fb fun b => M.bind (vw a) fun x => M.bind (vw b) fun y => M.bind (lift (fo x y)) fun d => M.pure (.dat d) := rfl
theorem v_op1 (fo : PyData → Option PyData) (fa : M R) : op1 fo fa env = cont (fa env) fun a => M.bind (vw a) fun x => M.bind (lift (fo x)) fun d => M.pure (.dat d) := rfl
theorem v_anil : anil env = some (.ok [] env) := rfl
theorem v_acons (fa : M R) (fr : M (List R)) : acons fa fr env = cont (fa env) fun a => M.bind fr fun r => M.pure (a :: r) := rfl
theorem v_vws0 : vws [] env = some (.ok [] env) := rfl
theorem v_vwsC (r : R) (rs : List R) : vws (r :: rs) env = cont (vw r env) fun d => M.bind (vws rs) fun ds => M.pure (d :: ds) := rfl
theorem v_cb (fo : List PyData → Option PyData) (fa : M (List R)) : cb fo fa env = cont (fa env) fun a => M.bind (vws a) fun ds => M.bind (lift (fo ds)) fun d => M.pure (.dat d) := rfl
theorem v_tupD (fa : M (List R)) : tupD fa env = cont (fa env) fun a => M.bind (lift (dds a)) fun ds => M.bind (lift (sz ds.length)) fun _ => M.pure (.dat (.tuple ds)) := rfl
theorem v_lstD (fa : M (List R)) : lstD fa env = cont (fa env) fun a => M.bind (lift (dds a)) fun ds => M.bind (lift (sz ds.length)) fun _ => M.pure (.dat (.list ds)) := rfl
theorem v_lstW (fa : M (List R)) : lstW fa env = cont (fa env) fun a => M.bind (lift (dds a)) fun ds => M.bind (lift (sz ds.length)) fun _ => M.pure (.own (dats ds)) := rfl
theorem v_listW (fa : M (List R)) : listW fa env = cont (fa env) fun a => M.bind (vws a) fun ds => M.bind (lift (match ds with | [a] => seqD a | _ => none)) fun es => M.pure (.own (dats es)) := rfl
theorem v_dds0 : dds [] = some [] := rfl
theorem v_ddsC (d : PyData) (r : List R) : dds (.dat d :: r) = (dds r).map (d :: ·) := rfl
def asB : PyData → Option Bool
  | .bool b => some b
  | _ => none
theorem v_asB (b : Bool) : asB (.bool b) = some b := rfl
theorem v_tb1 (fa : M R) : tb1 fa env = cont (fa env) fun a => M.bind (vw a) fun d => lift (asB d) := by
  unfold tb1
  rw [v_bind]
  congr 1
  funext a
  congr 1
  funext d
  cases d <;> rfl
theorem v_andT (fa fb : M Bool) : andT fa fb env = cont (fa env) fun a => if a = true then fb else M.pure false := rfl
theorem v_orT (fa fb : M Bool) : orT fa fb env = cont (fa env) fun a => if a = true then M.pure true else fb := rfl
theorem v_notT (fa : M Bool) : notT fa env = cont (fa env) fun a => M.pure (!a) := rfl
theorem v_andV (fa fb : M R) : andV fa fb env = cont (tb1 fa env) fun a => if a = true then fb else M.pure (ofB false) := rfl
theorem v_orV (fa fb : M R) : orV fa fb env = cont (tb1 fa env) fun a => if a = true then M.pure (ofB true) else fb := rfl
theorem v_notV (fa : M R) : notV fa env = cont (tb1 fa env) fun a => M.pure (ofB !a) := rfl
theorem v_ofB (b : Bool) : ofB b = .dat (.bool b) := rfl
theorem v_ifE (ft : M Bool) (fa fb : M R) : ifE ft fa fb env = cont (ft env) fun c => if c = true then fa else fb := rfl
theorem v_pl (f : M R) : pl f env = cont (f env) fun r => lift (toW r) := rfl
theorem v_toW (d : PyData) : toW (.dat d) = some (.dat d) := rfl
theorem v_fz (f : M Wv) : fz f env = cont (f env) fun w => lift (ofW w) := rfl
theorem v_ofWd (d : PyData) : ofW (.dat d) = some (.dat d) := rfl
theorem itD_dats (ds : List PyData) : (dats ds).map itD = ds := by
  unfold dats
  rw [List.map_map]
  exact List.map_id ds
theorem v_ofWo (ds : List PyData) : ofW (.own (dats ds)) = some (.dat (.list ds)) := by
  show some (R.dat (.list ((dats ds).map itD))) = _
  rw [itD_dats]
theorem v_nxt : nxt env = some (.ok .nx env) := rfl
theorem v_thenS (f g : M Fl) : thenS f g env = cont (f env) fun fl => match fl with | .nx => g | o => M.pure o := rfl
theorem v_exprS (f : M R) : exprS f env = cont (f env) fun _ => M.pure .nx := rfl
theorem v_retS (f : M Wv) : retS f env = cont (f env) fun w => M.pure (.rt w) := rfl
theorem v_retN : retN env = some (.ok (.rt (.dat .none)) env) := rfl
theorem v_ifS (c : M Bool) (f g : M Fl) : ifS c f g env = cont (c env) fun b => if b = true then f else g := rfl
theorem v_setS (i : Nat) (f : M Wv) : setS i f env = cont (f env) fun w => M.bind (putM i w) fun _ => M.pure .nx := rfl
theorem v_parS (i j : Nat) (f g : M Wv) : parS i j f g env = cont (f env) fun v => M.bind g fun w => M.bind (putM i v) fun _ => M.bind (putM j w) fun _ => M.pure .nx := rfl
theorem v_setIx (i : Nat) (fe fk : M R) : setIx i fe fk env = cont (fe env) fun r => M.bind (lift (asD r)) fun d => M.bind (ownD i) fun _ => M.bind fk fun k => M.bind (lift (asI k)) fun k => M.bind (ownD i) fun ds => M.bind (lift (ixN ds.length k)) fun j => M.bind (setOwn i (ds.set j d)) fun _ => M.pure .nx := rfl
theorem v_asD (d : PyData) : asD (.dat d) = some d := rfl
theorem v_asI (i : Int) : asI (.dat (.int i)) = some i := rfl
theorem v_mthE (i : Nat) (fo : List PyData → List PyData → Option (List PyData × PyData)) (fa : M (List R)) : mthE i fo fa env = cont (ownD i env) fun _ => M.bind fa fun rs => M.bind (lift (dds rs)) fun as => M.bind (ownD i) fun ds => M.bind (lift (fo ds as)) fun r => M.bind (setOwn i r.1) fun _ => M.pure (.dat r.2) := rfl
theorem v_callA (F : List PyData → Option Wv) (fa : M (List R)) : callA F fa env = cont (fa env) fun rs => M.bind (lift (dds rs)) fun ds => lift (F ds) := rfl
theorem v_callB (i : Nat) (F : List PyData → List PyData → Option (Wv × List PyData)) (fa : M (List R)) : callB i F fa env = cont (ownD i env) fun _ => M.bind fa fun rs => M.bind (lift (dds rs)) fun ds => M.bind (ownD i) fun bs => M.bind (lift (F bs ds)) fun r => M.bind (setOwn i r.2) fun _ => M.pure r.1 := rfl
theorem v_moveS (i : Nat) (xs : List It1) (h : env[i]? = some (some (.own xs))) : moveS i env = some (.ok (.rt (.own xs)) (env.set i none)) := by
  unfold moveS
  rw [h]
theorem v_forS (fi : M (List PyData)) (p : PyData → En → Option En) (body : M Fl) : forS fi p body env = cont (fi env) fun ds => forM p body ds := rfl
theorem v_argI (fo : List PyData → Option (List PyData)) (fa : M (List R)) : argI fo fa env = cont (fa env) fun rs => M.bind (lift (dds rs)) fun ds => lift (fo ds) := rfl
theorem v_seqI (f : M R) : seqI f env = cont (f env) fun r => M.bind (lift (asD r)) fun d => lift (seqD d) := rfl
theorem v_slD (fa : M R) (fl fh : M (Option Int)) : slD fa fl fh env = cont (fa env) fun a => M.bind fl fun lo => M.bind fh fun hi => M.bind (vw a) fun x => M.bind (lift (cutD x lo hi)) fun d => M.pure (.dat d) := rfl
theorem v_poN : poN env = some (.ok none env) := rfl
theorem v_poS (fa : M R) : poS fa env = cont (fa env) fun a => M.bind (lift (asI a)) fun i => M.pure (some i) := rfl
theorem v_isiE (T : String) (fa : M R) : isiE T fa env = cont (fa env) fun r => M.bind (vw r) fun d => M.bind (lift (kitD T d)) fun b => M.pure (ofB b) := rfl
theorem v_isiE2 (A B : String) (fa : M R) : isiE2 A B fa env = cont (fa env) fun r => M.bind (vw r) fun d => M.bind (lift (kitD A d)) fun a => M.bind (lift (kitD B d)) fun b => M.pure (ofB (a || b)) := rfl
theorem v_isNE (n : Bool) (fa : M R) : isNE n fa env = cont (fa env) fun r => M.bind (lift (isNR r)) fun b => M.pure (ofB (n ^^ b)) := rfl
theorem v_dnew : dnew env = some (.ok (.dct []) env) := rfl
theorem v_dinT (n : Bool) (i : Nat) (fk : M R) : dinT n i fk env = cont (fk env) fun r => M.bind (lift (asI r)) fun k => M.bind (dctD i) fun ks => M.pure (n ^^ decide (k ∈ ks)) := rfl
theorem v_dputS (i : Nat) (fk : M R) : dputS i fk env = cont (dctD i env) fun _ => M.bind fk fun r => M.bind (lift (asI r)) fun k => M.bind (dctD i) fun ks => M.bind (lift (chk (decide (ks.length < 1000)))) fun _ => M.bind (putM i (.dct (putT ks k))) fun _ => M.pure .nx := rfl
theorem v_sortDct (i : Nat) : sortDct i env = cont (dctD i env) fun ks => M.bind (lift (chk (decide (ks.length < 64)))) fun _ => M.pure (.dat (.list ((sortI ks).map .int))) := rfl
theorem v_rgE (fr : M (Int × Int)) : rgE fr env = cont (fr env) fun r => M.bind (lift (chk (decide (-(2 ^ 62) ≤ r.1 ∧ r.1 < 2 ^ 62 ∧ -(2 ^ 62) ≤ r.2 ∧ r.2 < 2 ^ 62 ∧ (r.2 - r.1).toNat ≤ 1000000)))) fun _ => M.pure (.dat (.tuple ((rngL r.1 r.2).map .int))) := rfl
theorem v_rg2 (fa fb : M R) : rg2 fa fb env = cont (fa env) fun a => M.bind fb fun b => M.bind (lift (asI a)) fun i => M.bind (lift (asI b)) fun j => M.pure (i, j) := rfl
theorem v_unS (p : PyData → En → Option En) (f : M R) : unS p f env = cont (f env) fun r => M.bind (lift (asD r)) fun d => M.bind (liftE (p d)) fun _ => M.pure .nx := rfl
theorem v_frz (i : Nat) (ds : List PyData) (h : env[i]? = some (some (.own (dats ds)))) : frzM i env = some (.ok () (env.set i (some (.dat (.list ds))))) := by
  unfold frzM
  rw [h]
  simp only
  rw [itD_dats]
theorem v_catW (fa fb : M R) : catW fa fb env = cont (fa env) fun a => M.bind fb fun b => M.bind (vw a) fun x => M.bind (vw b) fun y => M.bind (lift (catD x y)) fun d => M.bind (lift (match d with | .list ds => some ds | _ => none)) fun ds => M.pure (.own (dats ds)) := rfl
theorem v_chainE (fo fo' : PyData → PyData → Option PyData) (fa fb fc : M R) : chainE fo fo' fa fb fc env = cont (fa env) fun a => M.bind fb fun b => M.bind (vw a) fun x => M.bind (vw b) fun y => M.bind (lift (fo x y)) fun d => M.bind (lift (asB d)) fun k => if k = true then M.bind fc fun c => M.bind (vw b) fun y' => M.bind (vw c) fun z => M.bind (lift (fo' y' z)) fun d' => M.pure (.dat d') else M.pure (ofB false) := by
  unfold chainE
  have : (fun (b : R) (d : PyData) => (match d with | .bool k => if k = true then M.bind fc fun c => M.bind (vw b) fun y' => M.bind (vw c) fun z => M.bind (lift (fo' y' z)) fun d' => M.pure (.dat d') else M.pure (ofB false) | _ => fun _ => none : M R)) = fun b d => M.bind (lift (asB d)) fun k => if k = true then M.bind fc fun c => M.bind (vw b) fun y' => M.bind (vw c) fun z => M.bind (lift (fo' y' z)) fun d' => M.pure (.dat d') else M.pure (ofB false) := by
    funext b d
    cases d <;> rfl
  have h2 : ∀ b, (fun (d : PyData) => (match d with | .bool k => if k = true then M.bind fc fun c => M.bind (vw b) fun y' => M.bind (vw c) fun z => M.bind (lift (fo' y' z)) fun d' => M.pure (.dat d') else M.pure (ofB false) | _ => fun _ => none : M R)) = fun d => M.bind (lift (asB d)) fun k => if k = true then M.bind fc fun c => M.bind (vw b) fun y' => M.bind (vw c) fun z => M.bind (lift (fo' y' z)) fun d' => M.pure (.dat d') else M.pure (ofB false) := fun b => congrFun this b
  show M.bind _ _ env = _
  rw [v_bind]
  congr 1
  funext a
  congr 1
  funext b
  congr 1
  funext x
  congr 1
  funext y
  congr 1
  exact h2 b
/-! operators on numbers -/
theorem v_add (i j : Int) : addD (.int i) (.int j) = some (.int (i + j)) := rfl
theorem v_sub (i j : Int) : subD (.int i) (.int j) = some (.int (i - j)) := rfl
theorem v_mul (i j : Int) (h : pMul i j = true) : mulD (.int i) (.int j) = some (.int (i * j)) := if_pos h
theorem v_div (i j : Int) (h : pDiv i j = true) : divD (.int i) (.int j) = some (.int (i / j)) := if_pos h
theorem v_mod (i j : Int) (h : pMod i j = true) : modD (.int i) (.int j) = some (.int (i % j)) := if_pos h
theorem v_pow (i j : Int) (h : pPow i j = true) : powD (.int i) (.int j) = some (.int (i ^ j.toNat)) := if_pos h
theorem v_lt (i j : Int) : ltD (.int i) (.int j) = some (.bool (decide (i < j))) := rfl
theorem v_le (i j : Int) : leD (.int i) (.int j) = some (.bool (decide (i ≤ j))) := rfl
theorem v_gt (i j : Int) : gtD (.int i) (.int j) = some (.bool (decide (j < i))) := rfl
theorem v_ge (i j : Int) : geD (.int i) (.int j) = some (.bool (decide (j ≤ i))) := rfl
theorem v_eqI (n : Bool) (i j : Int) : eqA n (.int i) (.int j) = some (.bool (n ^^ decide (i = j))) := rfl
theorem v_eqB (n : Bool) (i j : Bool) : eqA n (.bool i) (.bool j) = some (.bool (n ^^ decide (i = j))) := rfl
theorem v_eqS (n : Bool) (i j : Str) : eqA n (.str i) (.str j) = some (.bool (n ^^ decide (i = j))) := rfl
theorem v_ixL (ds : List PyData) (i : Int) : ixD (.list ds) (.int i) = atI ds i := rfl
theorem v_ixT (ds : List PyData) (i : Int) : ixD (.tuple ds) (.int i) = atI ds i := rfl
theorem v_lenL (ds : List PyData) : lenD [.list ds] = some (.int ds.length) := rfl
theorem v_lenT (ds : List PyData) : lenD [.tuple ds] = some (.int ds.length) := rfl
theorem v_abs (i : Int) : absD [.int i] = some (.int (if i < 0 then -i else i)) := rfl
theorem v_intI (i : Int) : intD [.int i] = some (.int i) := rfl
theorem v_intB (k : Bool) : intD [.bool k] = some (.int (if k then 1 else 0)) := rfl
theorem v_min (i j : Int) : minD [.int i, .int j] = some (.int (if j < i then j else i)) := rfl
theorem v_max (i j : Int) : maxD [.int i, .int j] = some (.int (if j > i then j else i)) := rfl
theorem v_sz (n : Nat) (h : n ≤ 1000000) : sz n = some () := if_pos h
theorem v_chk : chk true = some () := rfl
theorem v_app (ds : List PyData) (a : PyData) (h : ds.length + 1 ≤ 1000000) : appD ds [a] = some (ds ++ [a], .none) := by
  show (sz (ds.length + 1)).map _ = _
  rw [v_sz _ h]
  rfl
end
theorem v_cat (xs ys : List PyData) (h : xs.length + ys.length ≤ 1000000) : catD (.list xs) (.list ys) = some (.list (xs ++ ys)) := by
  show (sz _).map _ = _
  rw [v_sz _ h]
  rfl
theorem then_nx {f g : M Fl} {env e : En} (h : f env = some (.ok .nx e)) : thenS f g env = g e := by
  rw [v_thenS, h]
  rfl
theorem then_rt {f g : M Fl} {env e : En} {w : Wv} (h : f env = some (.ok (.rt w) e)) : thenS f g env = some (.ok (.rt w) e) := by
  rw [v_thenS, h]
  rfl
/-- a function's run, by its body's -/
theorem runA_eq {np n : Nat} {fb : M Fl} {ds : List PyData} {w : Wv} (hl : ds.length = np) (h : ∃ e, fb (env0 ds (n - ds.length)) = some (.ok (.rt w) e)) : runA np n fb ds = some w := by
  obtain ⟨e, h⟩ := h
  unfold runA
  rw [if_pos hl, h]
theorem runB_eq {np n : Nat} {fb : M Fl} {bs ds bs' : List PyData} {w : Wv} (hl : ds.length + 1 = np) (h : ∃ e, fb (some (.own (dats bs)) :: env0 ds (n - (ds.length + 1))) = some (.ok (.rt w) (some (.own (dats bs')) :: e))) : runB np n fb bs ds = some (w, bs') := by
  obtain ⟨e, h⟩ := h
  unfold runB
  rw [if_pos hl, h]
  show (itds (dats bs')).map _ = _
  rw [itds_dats]
  rfl
end Ov
set_option Elab.async false
set_option linter.all false
set_option maxRecDepth 100000
set_option maxHeartbeats 4000000
namespace Ov
open PySem L2
/-! loops and comprehensions, a turn at a time -/
section
variable {env e e2 : En}
theorem while_go {c : M Bool} {b : M Fl} {k : Nat} (h1 : c env = some (.ok true e)) (h2 : b e = some (.ok .nx e2)) : whileM c b (k + 1) env = whileM c b k e2 := by
  simp only [whileM, h1, h2, if_true]
theorem while_end {c : M Bool} {b : M Fl} {k : Nat} (h1 : c env = some (.ok false e)) : whileM c b (k + 1) env = some (.ok .nx e) := by
  simp only [whileM, h1, Bool.false_eq_true, if_false]
theorem for_nil {p : PyData → En → Option En} {b : M Fl} : forM p b [] env = some (.ok .nx env) := rfl
theorem for_go {p : PyData → En → Option En} {b : M Fl} {d : PyData} {ds : List PyData} (h1 : p d env = some e) (h2 : b e = some (.ok .nx e2)) : forM p b (d :: ds) env = forM p b ds e2 := by
  simp only [forM, h1, h2]
theorem for_rt {p : PyData → En → Option En} {b : M Fl} {d : PyData} {ds : List PyData} {w : Wv} (h1 : p d env = some e) (h2 : b e = some (.ok (.rt w) e2)) : forM p b (d :: ds) env = some (.ok (.rt w) e2) := by
  simp only [forM, h1, h2]
theorem comp_yes {p : PyData → En → Option En} {ft : M Bool} {fe : M R} {vs : List Nat} {d y : PyData} {ds acc : List PyData} {e3 : En} (h1 : p d env = some e) (h2 : ft e = some (.ok true e2)) (h3 : fe e2 = some (.ok (.dat y) e3)) (h4 : freeB e3 vs = true) (h5 : acc.length < 1000000) :
    compM p ft fe vs (d :: ds) acc env = compM p ft fe vs ds (acc ++ [y]) (wipeE e3 vs) := by
  simp only [compM, h1, h2, h3, h4, h5, if_true, true_and, and_self]
theorem comp_no {p : PyData → En → Option En} {ft : M Bool} {fe : M R} {vs : List Nat} {d : PyData} {ds acc : List PyData} (h1 : p d env = some e) (h2 : ft e = some (.ok false e2)) (h4 : freeB e2 vs = true) :
    compM p ft fe vs (d :: ds) acc env = compM p ft fe vs ds acc (wipeE e2 vs) := by
  simp only [compM, h1, h2, h4, if_true, Bool.false_eq_true, if_false]
/-- nothing changes but the list -/
theorem comp_all {p : PyData → En → Option En} {ft : M Bool} {fe : M R} {vs : List Nat} (g : PyData → PyData) (t : PyData → Bool) : ∀ (ds acc : List PyData), acc.length + ds.length < 1000000 →
    (∀ d ∈ ds, ∃ e, p d env = some e ∧ ft e = some (.ok (t d) e) ∧ (t d = true → fe e = some (.ok (.dat (g d)) e)) ∧ freeB e vs = true ∧ wipeE e vs = env) → compM p ft fe vs ds acc env = some (.ok (acc ++ (ds.filter t).map g) env)
  | [], acc, _, _ => by simp [compM, M.pure]
  | d :: ds, acc, hl, h => by
    obtain ⟨e, h1, h2, h3, h4, h5⟩ := h d (List.mem_cons_self ..)
    rw [List.length_cons] at hl
    cases q : t d with
    | true =>
      rw [q] at h2
      rw [comp_yes h1 h2 (h3 q) h4 (by omega), h5, comp_all g t ds (acc ++ [g d]) (by rw [List.length_append]; show acc.length + 1 + _ < _; omega) fun x hx => h x (List.mem_cons_of_mem _ hx)]
      simp [q]
    | false =>
      rw [q] at h2
      rw [comp_no h1 h2 h4, h5, comp_all g t ds acc (by omega) fun x hx => h x (List.mem_cons_of_mem _ hx)]
      simp [q]
theorem comp_map {p : PyData → En → Option En} {ft : M Bool} {fe : M R} {vs : List Nat} (g : PyData → PyData) (ds acc : List PyData) (hl : acc.length + ds.length < 1000000)
    (h : ∀ d ∈ ds, ∃ e, p d env = some e ∧ ft e = some (.ok true e) ∧ fe e = some (.ok (.dat (g d)) e) ∧ freeB e vs = true ∧ wipeE e vs = env) : compM p ft fe vs ds acc env = some (.ok (acc ++ ds.map g) env) := by
  have := comp_all (env := env) (p := p) (ft := ft) (fe := fe) (vs := vs) g (fun _ => true) ds acc hl fun d hd => by
    obtain ⟨e, h1, h2, h3, h4, h5⟩ := h d hd
    exact ⟨e, h1, h2, fun _ => h3, h4, h5⟩
  rw [List.filter_eq_self.mpr fun _ _ => rfl] at this
  exact this
theorem lc_eq {fi : M (List PyData)} {p : PyData → En → Option En} {ft : M Bool} {fe : M R} {vs : List Nat} {ds out : List PyData} {e3 : En} (h1 : fi env = some (.ok ds e)) (h2 : freeB e vs = true) (h3 : wipeE e vs = e2) (h4 : compM p ft fe vs ds [] e2 = some (.ok out e3)) :
    lcW fi p ft fe vs env = some (.ok (.own (dats out)) e3) := by
  show cont (fi env) _ = _
  rw [h1]
  show (if freeB e vs = true then (M.bind (compM p ft fe vs ds []) fun out => M.pure (Wv.own (dats out))) (wipeE e vs) else none) = _
  rw [if_pos h2, h3]
  show cont (compM p ft fe vs ds [] e2) _ = _
  rw [h4]
  rfl
end
theorem free_le (ks : List Int) (a M : Int) (hM : (ks.length : Int) < M) : ∃ m : Nat, m ≤ ks.length ∧ (a + m) % M + 1 ∉ ks := by
  refine Classical.byContradiction fun no => ?_
  have all : ∀ m : Nat, m ≤ ks.length → (a + m) % M + 1 ∈ ks := fun m hm => Classical.byContradiction fun h => no ⟨m, hm, h⟩
  have nd : ((List.range (ks.length + 1)).map fun m : Nat => (a + m) % M + 1).Nodup := by
    refine List.pairwise_map.mpr ?_
    refine List.Pairwise.imp_of_mem ?_ List.pairwise_lt_range
    intro i j hi hj hij e
    have hj' := List.mem_range.mp hj
    exact emod_ne (a := a) (M := M) (by omega) hij (by omega)
  have h := sub_len _ ks nd fun x hx => by
    obtain ⟨m, hm, rfl⟩ := List.mem_map.mp hx
    exact all m (by have := List.mem_range.mp hm; omega)
  rw [List.length_map, List.length_range] at h
  omega
/-- the first such step -/
theorem free_first (ks : List Int) (a M : Int) (hM : (ks.length : Int) < M) : ∃ m : Nat, m ≤ ks.length ∧ (a + m) % M + 1 ∉ ks ∧ ∀ j : Nat, j < m → (a + j) % M + 1 ∈ ks := by
  obtain ⟨m, hm, h⟩ := free_le ks a M hM
  have key : ∀ n : Nat, n ≤ ks.length → (a + n) % M + 1 ∉ ks → ∃ m : Nat, m ≤ ks.length ∧ (a + m) % M + 1 ∉ ks ∧ ∀ j : Nat, j < m → (a + j) % M + 1 ∈ ks := by
    intro n
    induction n using Nat.strongRecOn with
    | _ n ih =>
      intro hn h
      by_cases q : ∃ j, j < n ∧ (a + (j : Nat)) % M + 1 ∉ ks
      · obtain ⟨j, hj, hq⟩ := q
        exact ih j hj (by omega) hq
      · exact ⟨n, hn, h, fun j hj => Classical.byContradiction fun z => q ⟨j, hj, z⟩⟩
  exact key m hm h
theorem erase_map {α β : Type} (f : α → β) : ∀ (l : List α) (j : Nat), (l.map f).eraseIdx j = (l.eraseIdx j).map f
  | [], j => by simp
  | a :: r, 0 => by simp
  | a :: r, j + 1 => by
    rw [List.map_cons, List.eraseIdx_cons_succ, List.eraseIdx_cons_succ, List.map_cons, erase_map f r j]
theorem shp_list (ns : List Int) : shp (.list (ns.map .int)) = true := sh_ints ns
theorem ne_nil (ns : List Int) : eqvD true (.list (ns.map .int)) (.list []) = some (.bool (!ns.isEmpty)) := by
  unfold eqvD
  rw [shp_list, show shp (.list []) = true by decide]
  show some (PyData.bool (true ^^ PyData.eqv (dInts ns) (.list []))) = _
  rw [eqv_nil, Bool.true_xor]
theorem shp_int (i : Int) : shp (.int i) = true := by simp [shp, SeqAt.shaped, PyData.canLay0, PyData.depth]
end Ov
set_option Elab.async false
set_option linter.all false
set_option maxRecDepth 100000
set_option maxHeartbeats 4000000
namespace Ov
open PySem L2
/-! a comprehension of two clauses, the second one over a range -/
section
variable {K : PySem.W.Frag} {E : XK}
def PostJ (K : PySem.W.Frag) (E : XK) (B : Addr → Prop) (σ : St) (H : Hp) (l : List Addr) (rs : Rs (List PyData)) (R : It → Hp → Prop) : Prop :=
  match rs with
  | .ok ds env' => ∀ J H' Y, Rep K B σ H' env' l → Fr l H H' → Walk J ds.length (fun _ => True) Y → (∀ i x H2 H3 d, Y i H2 x H3 → ds[i]? = some d → H3 = H2 ∧ ∃ k : Int, x = .int k ∧ d = .int k) → R J H'
  | .ex C f d => Exn K E B H l C f d
theorem PostJ.exn {B : Addr → Prop} {σ : St} {H : Hp} {l : List Addr} {rs : Rs (List PyData)} {R : It → Hp → Prop} (h : PostJ K E B σ H l rs R) : ∀ C f d, rs = .ex C f d → Exn K E B H l C f d := fun C f d e => by subst e; exact h
/-! what it does -/
end
end Ov
set_option Elab.async false
set_option linter.all false
set_option maxRecDepth 100000
set_option maxHeartbeats 4000000
set_option Elab.async false
set_option linter.all false
set_option maxRecDepth 100000
set_option maxHeartbeats 4000000
namespace Ov
open PySem L2
theorem vals_getD : ∀ {zs : List V} {ws : List Value}, Vals zs ws → ∀ i : Nat, RelV (zs.getD i .non) (ws.getD i .none)
  | _, _, .nil, i => by simp; rfl
  | _, _, .cons r t, 0 => r
  | _, _, .cons r t, i + 1 => by
    have := vals_getD t i
    simpa using this
theorem vals_perm {zs : List V} {ws : List Value} (r : Vals zs ws) : ∀ π : List Nat, Vals (π.map fun i => zs.getD i .non) (π.map fun i => ws.getD i .none)
  | [] => .nil
  | i :: q => .cons (vals_getD r i) (vals_perm r q)
theorem kbn_perm {K : PySem.W.Frag} {x qual : Str} {st : Stmt} {f : Addr} {fd : FuncData} {ps : List Str} (F : Fun K x qual st f fd) (ks : List Str) (π : List Nat)
    (h : ∀ (kV doc pm : Value) (an : Option Addr) (cdv ct : Value) (ws : List Value), ws.length = ks.length → bindArgs (PySem.W.fnOf x qual (defArgs st) (defBody st) (defScope st) .none kV doc pm an cdv ct) ⟨[], ks.zip ws⟩ = pure (ps.zip (π.map fun i => ws.getD i .none))) :
    KBn K fd ps 0 ks (fun _ ws => π.map fun i => ws.getD i .none) (fun _ zs => π.map fun i => zs.getD i .non) := by
  obtain ⟨oc, od, kV, doc, pm, an, cdv, ct, osl, rfl, lk, hcd⟩ := F.ex
  refine ⟨fun s us ws _ l1 l2 => ?_, fun _ r2 => vals_perm r2 π⟩
  cases us with
  | nil => exact .of_eq (h kV doc pm an cdv ct ws l2)
  | cons _ _ => cases l1
end Ov
set_option Elab.async false
set_option linter.all false
set_option maxRecDepth 100000
set_option maxHeartbeats 4000000
set_option Elab.async false
set_option linter.all false
set_option maxRecDepth 100000
set_option maxHeartbeats 4000000
namespace Ov
open PySem L2
/-! errors: raised, handed on, caught and kept -/
section
variable {K : PySem.W.Frag} {E : XK} {bx : Nat}
def raiseS (C : Addr) (f : Str) (fa : M (List R)) : M Fl := M.bind fa fun rs => M.bind (lift (dds rs)) fun ds => fun _ => match ds with
  | [d] => some (.ex C f d)
  | _ => none
theorem exn_put {B : Addr → Prop} {σ : St} {H H1 H' : Hp} {env : En} {l : List Addr} {C dx : Addr} {f : Str} {v : V} {d : PyData} (post : Exn K E B H l C f d) (hf : f ≠ "") (r1 : Rep K B σ H1 env l) (f1 : Fr l H H1) (da : Da K (off (un B l) H1) v d) (s : Same H1 H') (nd : H1 dx = none) (hd : H' dx = some (.xd [(f, v)])) : E (.ref C) (some dx) H' := by
  refine post.1 hf dx H' v (f1.trans (Fr.of s)) (fun z => r1.fresh nd (.inl z)) hd (Da.same (off_mono (fun b z n => absurd (.inl z) n) fun b o n e => s b o e) d da)
theorem OkS.raise1 {C : Addr} {k : Nat} {f : Str} {t : TA} {fa : M (List R)} (hf : f ≠ "") (cl : Cl K C k) (no : PySem.W.findIn K (.ref C) f = some none) (o : OkA K E t fa) : OkS K E bx (fun _ σ H => tRz C (spIni K C (tl k) (nw k) f) t σ H fun cls d H' => E cls d H') (raiseS C f fa) := by
  refine ⟨?_⟩
  intro B σ H env l rs rp h D post
  refine o.seq rp h post.exn fun a e vs H1 h1 r1 f1 q1 => ?_
  obtain ⟨ds, h2, h3⟩ := lift_step h1
  have da := dds_ok q1 h2
  match ds, h3, da with
  | [d], h3, da =>
    cases h3
    obtain ⟨v, rfl, dv⟩ := daAll1 da
    exact ⟨v, rfl, fun a na => rz_plain cl no (fun dx H' s nd hd => exn_put post hf r1 f1 dv s nd hd) a na⟩
  | [], h3, _ => cases h3
  | _ :: _ :: _, h3, _ => cases h3
/-- a def that gives a value or an error -/
abbrev Xo := Sum Wv (Addr × Str × PyData)
def spX (K : PySem.W.Frag) (F : List PyData → Option Xo) : Sp := fun vs H Q E => ∃ B ds o, DaAll K (off B H) vs ds ∧ (∀ b, B b → ∃ o, H b = some o ∧ NT o) ∧ F ds = some o ∧
  (∀ w, o = .inl w → ∀ v H' lw, Same H H' → RpW K H' (off (un B lw) H') v w lw → lw.Nodup → (∀ b ∈ lw, H b = none) → Q v H') ∧
  ∀ C f d, o = .inr (C, f, d) → (f ≠ "" → ∀ dx H' v, Same H H' → ¬ B dx → H' dx = some (.xd [(f, v)]) → Da K (off B H') v d → E (.ref C) (some dx) H') ∧ (f = "" → ∀ H', Same H H' → E (.ref C) none H')
def runX (np n : Nat) (fb : M Fl) (ds : List PyData) : Option Xo := if ds.length = np then
  match fb (env0 ds (n - ds.length)) with
  | some (.ok .nx _) => some (.inl (.dat .none))
  | some (.ok (.rt w) _) => some (.inl w)
  | some (.ex C f d) => some (.inr (C, f, d))
  | _ => none else none
theorem lenX {K : PySem.W.Frag} {np n : Nat} {fb : M Fl} {vs : List V} {H : Hp} {Q : VK} {E : XK} (h : spX K (runX np n fb) vs H Q E) : vs.length = np := by
  obtain ⟨B, ds, o, da, _, hf, _⟩ := h
  unfold runX at hf
  split at hf
  · rw [daAll_len da]; assumption
  · cases hf
theorem finX {H : Hp} {t : TS} {fb : M Fl} {N : List Str} {vs : List V} {Q : VK} {np : Nat} (o : OkS K E 0 t fb) (h : spX K (runX np N.length fb) vs H Q E) : t { nx := fun _ H' => Q .non H', rt := Q } (L2.start N vs) H := by
  obtain ⟨B, ds, w, da, hB, hf, q, qx⟩ := h
  have el := daAll_len da
  have rp : Rep K B (L2.start N vs) H (env0 ds (N.length - ds.length)) [] := by
    refine ⟨?_, List.nodup_nil, fun _ z => (by cases z), hB⟩
    rw [un_nil]
    unfold L2.start
    rw [el]
    exact rpe_args _ da
  unfold runX at hf
  split at hf
  case isFalse => cases hf
  cases hz : fb (env0 ds (N.length - ds.length)) with
  | none => rw [hz] at hf; cases hf
  | some z =>
    rw [hz] at hf
    cases z with
    | ex C f d =>
      cases hf
      exact o.run rp hz ⟨fun hf dx H' v f' nB hd dv => (qx C f d rfl).1 hf dx H' v (fun b o e => f' b o (fun z => by cases z) e) nB hd dv, fun hf H' f' => (qx C f d rfl).2 hf H' (fun b o e => f' b o (fun z => by cases z) e)⟩
    | ok fl e =>
      cases fl with
      | bk => cases hf
      | ct => cases hf
      | nx =>
        cases hf
        refine o.run rp hz fun σ' H' l' r' f' _ => q _ rfl .non H' [] (fun b o e => f'.fr b o (fun z => by cases z) e) ⟨rfl, .non⟩ List.nodup_nil fun _ z => by cases z
      | rt w' =>
        cases hf
        refine o.run rp hz fun v σ' H' l' lw r' f' _ rw' nd hl => q _ rfl v H' lw (fun b o e => f'.fr b o (fun z => by cases z) e) ?_ nd fun b z => ?_
        · exact rw'.mv (off_mono (fun b z n => absurd (.inl z) n) fun b o n e => e) fun _ _ => rfl
        · exact (f'.sub b (List.mem_append_right _ z)).resolve_left fun z => by cases z
/-- a call of such a def -/
def callX (F : List PyData → Option Xo) (fa : M (List R)) : M Wv := M.bind fa fun rs => M.bind (lift (dds rs)) fun ds => fun env => match F ds with
  | some (.inl w) => some (.ok w env)
  | some (.inr (C, f, d)) => some (.ex C f d)
  | none => none
theorem callX_ok {B : Addr → Prop} {σ : St} {H H1 : Hp} {e : En} {l : List Addr} {vs : List V} {ds : List PyData} {F : List PyData → Option Xo} {rs : Rs Wv} {Q : VK} (r1 : Rep K B σ H1 e l) (f1 : Fr l H H1) (da : DaAll K (off (un B l) H1) vs ds)
    (hw : (match F ds with | some (.inl w) => some (Rs.ok w e) | some (.inr (C, f, d)) => some (.ex C f d) | none => none) = some rs) (post : PostW K E B σ H l rs Q) : spX K F vs H1 Q E := by
  cases hF : F ds with
  | none => rw [hF] at hw; cases hw
  | some o =>
    rw [hF] at hw
    refine ⟨un B l, ds, o, da, r1.tl, hF, fun w ew => ?_, fun C f d ew => ?_⟩
    · subst ew
      cases hw
      intro v H' lw s rw' nd fr
      have hl : ∀ b ∈ lw, ¬ un B l b := fun b z => r1.fresh (fr b z)
      refine post v H' lw (r1.grow s (fun _ z => .inl z) (fun b z => z.imp id (fr b)) fun b z => ?_) (f1.trans (Fr.of s)) (rw'.mv (off_mono (fun b z n => absurd (z.elim (fun z => z.elim (fun z => .inl (.inl z)) .inr) fun z => .inl (.inr z)) n) fun b o n e => e) fun _ _ => rfl) nd fun b z => ?_
      · rcases z with z | z
        · obtain ⟨o, e, n⟩ := r1.tb b z
          exact ⟨o, s _ _ e, n⟩
        · exact rw'.trk b z
      · cases q : H b with
        | none => rfl
        | some o =>
          have := f1 b o (fun y => hl b z (.inr y)) q
          rw [fr b z] at this
          cases this
    · subst ew
      cases hw
      have p : Exn K E B H l C f d := post
      exact ⟨fun hf dx H' v s nB hd dv => p.1 hf dx H' v (f1.trans (Fr.of s)) (fun z => nB (.inl z)) hd (Da.same (off_mono (fun b z n => absurd (.inl z) n) fun b o n e => e) d dv), fun hf H' s => p.2 hf H' (f1.trans (Fr.of s))⟩
/-! try: x = ..; except (A, B, ..) as error: caught = error -/
def noOwn (env : En) : Bool := env.all fun s => !isOwn (some s)
theorem rpe_nil {H G : Hp} : ∀ {σ : St} {env : En} {l : List Addr}, RpE K H G σ env l → noOwn env = true → l = []
  | [], [], l, h, _ => h
  | s :: σ, e :: env, l, ⟨a, b, z, h1, h2⟩, hn => by
    have hn : (!isOwn (some e) && env.all fun s => !isOwn (some s)) = true := by rw [← hn]; rfl
    obtain ⟨n1, n2⟩ := (Bool.and_eq_true _ _).mp hn
    have hb := rpe_nil h2 n2
    subst hb
    have ha : a = [] := by
      cases e with
      | none => exact h1
      | some w =>
        obtain ⟨v, _, h1⟩ := h1
        cases w with
        | dat d => exact h1.1
        | own xs => cases n1
        | exc C f d => exact h1.1
        | dct _ => cases n1
        | lin _ _ _ => cases n1
        | dci ks => cases n1
        | dtk ks => cases n1
        | dts ks => cases n1
        | pin _ _ => exact h1.1
        | dtn _ => cases n1
        | dtd _ => cases n1
        | nd _ => exact h1.1
        | ndd _ => exact h1.1
        | lkd _ => exact h1.1
    rw [z, ha]
    rfl
def isEmp : Option (Option Wv) → Bool
  | some none => true
  | _ => false
theorem isEmp_ok {x : Option (Option Wv)} (h : isEmp x = true) : x = some none := by
  cases x with
  | none => cases h
  | some y => cases y with
    | none => rfl
    | some _ => cases h
def keepS (i j m : Nat) (cs : List Addr) (f : M Wv) : M Fl := fun env =>
  match f env with
  | some (.ok w e) => (M.bind (putM i w) fun _ => M.pure Fl.nx) e
  | some (.ex C fl d) => if C ∈ cs ∧ noOwn env = true ∧ m < env.length ∧ j < env.length ∧ j ≠ m ∧ isEmp env[j]? = true then some (.ok .nx (env.set m (some (.exc C fl d)))) else none
  | none => none
/-- as OkW, at given slots -/
structure OkWat (K : PySem.W.Frag) (E : XK) (σ : St) (t : TE) (f : M Wv) : Prop where
  run : ∀ {B : Addr → Prop} {H : Hp} {env : En} {l : List Addr} {rs : Rs Wv}, Rep K B σ H env l → f env = some rs → ∀ {Q : VK}, PostW K E B σ H l rs Q → t σ H Q
theorem OkWat.callK {F : List PyData → Option Xo} {W : WX} {σ : St} {n : Nat} {gV : List V → List V → List V} {gD : List PyData → List PyData} {t : TA} {fa : M (List R)} (hg : ∀ {G : Hp} {vs : List V} {ds : List PyData}, DaAll K G vs ds → ds.length = n → DaAll K G (gV [] vs) (gD ds)) (oa : OkA K (fun cls d H' => W cls d σ H') t fa) :
    OkWat K (fun cls d H' => W cls d σ H') σ (tCallKS n (spX K F) gV (L2.WE W) t) (Ov.callX (fun ds => if ds.length = n then F (gD ds) else none) fa) := by
  refine ⟨?_⟩
  intro B H env l rs rp h Q post
  refine oa.seq rp h post.exn fun a e vs H1 h1 r1 f1 q1 => ?_
  obtain ⟨ds, h2, h3⟩ := lift_step h1
  have da := dds_ok q1 h2
  by_cases hn : ds.length = n
  · simp only [hn, if_true] at h3
    exact ⟨by rw [daAll_len da]; exact hn, callX_ok r1 f1 (hg da hn) h3 post⟩
  · simp only [hn, if_false] at h3
    cases h3
def ifW (t : M Bool) (a b : M Wv) : M Wv := M.bind t fun x => if x = true then a else b
theorem OkS.keep {i j m : Nat} {cs : List Addr} {te : WX → TE} {tt : Value → Value → Bool} {f : M Wv} (o : ∀ (W : WX) (σ : St), OkWat K (fun cls d H' => W cls d σ H') σ (te W) f)
    (hc : ∀ C ∈ cs, ∃ k, Cl K C k) (hx : ∀ C ∈ cs, ∀ c ∈ cs.map Value.ref, PySem.W.exmOne K (.ref C) c = some (tt (.ref C) c)) (ht : ∀ C ∈ cs, (cs.map Value.ref).any (tt (.ref C)) = true) :
    OkS K E 0 (fun D σ H => tAsg (te (wKeep tt K (cs.map Value.ref) j (fun _ _ _ => tAsg (tVar j) (gName m)) D)) (gName i) D σ H) (keepS i j m cs f) := by
  refine ⟨?_⟩
  intro B σ H env l rs rp h D post
  unfold keepS at h
  cases hf : f env with
  | none => rw [hf] at h; cases h
  | some z =>
    rw [hf] at h
    cases z with
    | ok w e =>
      refine (o _ _).run rp hf fun v H' lw r1 f1 q1 nd fr => ?_
      obtain ⟨hi, h2⟩ := putM_step h
      cases h2
      obtain ⟨l', r', mm⟩ := r1.put hi q1 nd fun b z => ⟨fun y => rp.fresh (fr b z) (.inr y), fun y => rp.fresh (fr b z) (.inl y)⟩
      exact post _ H' l' r' ⟨f1, fun b z => (mm b z).imp id (fr b)⟩ fun z => z.elim0
    | ex C fl d =>
      simp only at h
      split at h
      case isFalse => cases h
      rename_i hh
      obtain ⟨hC, hn, hm, hj, jm, ej⟩ := hh
      cases h
      have l0 := rpe_nil rp.rp hn
      subst l0
      obtain ⟨k, cl⟩ := hc C hC
      have sl : σ.length = env.length := rp.len
      have tail : ∀ (od : Option Addr) (H' : Hp) (v : V), Fr [] H H' → (∀ a, H' a = none → CauF K (off B (upd H' a (exg a C od))) a C fl v) → (fl ≠ "" → Da K (off B H') v d) → wKeep tt K (cs.map Value.ref) j (fun _ _ _ => tAsg (tVar j) (gName m)) D (.ref C) od σ H' := by
        intro od H' v f1 ca dv
        have s1 : Same H H' := fun b o e => f1 b o (fun z => by cases z) e
        refine ⟨C, rfl, hx C hC, ht C hC, fun a na => ?_⟩
        have sj : (σ.set j (some (.ref a)))[j]? = some (some (.ref a)) := by rw [List.getElem?_set_self (by omega)]
        refine ⟨.ref a, sj, ?_⟩
        have s2 : Same H' (upd H' a (exg a C od)) := same_new na _
        have r2 : Rep K B σ (upd H' a (exg a C od)) env [] := (rp.same s1).same s2
        show D.nx ((((σ.set j (some (.ref a))).set m (some (.ref a))).set j none)) (upd H' a (exg a C od))
        refine post _ _ [] ?_ (Fr2.of (fun b o n e => s2 _ _ (s1 _ _ e))) fun z => z.elim0
        have sub : Same (off B H') (off (un (un B []) []) (upd H' a (exg a C od))) := by
          rw [un_nil, un_nil]
          exact off_mono (fun b z n => absurd z n) fun b o n e => s2 _ _ e
        have r3 : Rep K (un B []) σ (upd H' a (exg a C od)) env [] := by rw [un_nil]; exact r2
        obtain ⟨l', r4, mm⟩ := r3.put (i := m) (v := .ref a) (w := .exc C fl d) hm ⟨rfl, a, v, rfl, by rw [un_nil, un_nil]; exact ca a na, fun z => Da.same sub d (dv z)⟩ List.nodup_nil fun b z => by cases z
        have e' : l' = [] := by
          cases l' with
          | nil => rfl
          | cons b _ => rcases mm b (List.mem_cons_self ..) with z | z <;> cases z
        subst e'
        refine ⟨r4.rp.any (by simp) fun p w hp => ?_, r4.nd, r4.out, r4.tb⟩
        by_cases pj : p = j
        · subst pj
          rw [List.getElem?_set_ne (fun z => jm z.symm), isEmp_ok ej] at hp
          cases hp
        · rw [List.getElem?_set_ne (fun z => pj z.symm)]
          by_cases pm : p = m
          · subst pm
            rw [List.getElem?_set_self (by rw [List.length_set]; omega), List.getElem?_set_self (by omega)]
          · rw [List.getElem?_set_ne (fun z => pm z.symm), List.getElem?_set_ne (fun z => pj z.symm), List.getElem?_set_ne (fun z => pm z.symm)]
      refine (o _ _).run rp hf ⟨fun hne dx H' v f1 nB hd dv => tail (some dx) H' v f1 (fun a na => .inl ⟨hne, k, dx, cl, ?_, ?_⟩) fun _ => dv, fun he H' f1 => tail none H' .non f1 (fun a na => .inr ⟨he, k, cl, ?_⟩) fun z => absurd he z⟩
      · exact (off_ne fun z => ((rp.same fun b o e => f1 b o (fun z => by cases z) e).fresh na) (.inl z)).trans upd_same
      · exact (off_ne nB).trans ((upd_ne fun z => by rw [z, na] at hd; cases hd).trans hd)
      · exact (off_ne fun z => ((rp.same fun b o e => f1 b o (fun z => by cases z) e).fresh na) (.inl z)).trans upd_same
def tE : Value → Value → Bool
  | .ref a, .ref b => decide (a = b)
  | _, _ => false
theorem OkS.keepC {i j m : Nat} {cs : List Addr} {te : WX → TE} {f : M Wv} (o : ∀ (W : WX) (σ : St), OkWat K (fun cls d H' => W cls d σ H') σ (te W) f) (hc : ∀ C ∈ cs, ∃ k, Cl K C k) :
    OkS K E 0 (fun D σ H => tAsg (te (wKeep tE K (cs.map Value.ref) j (fun _ _ _ => tAsg (tVar j) (gName m)) D)) (gName i) D σ H) (keepS i j m cs f) := by
  refine OkS.keep o hc (fun C hC c hcc => ?_) fun C hC => List.any_eq_true.mpr ⟨.ref C, List.mem_map.mpr ⟨C, hC, rfl⟩, decide_eq_true rfl⟩
  obtain ⟨D, hD, rfl⟩ := List.mem_map.mp hcc
  obtain ⟨k, cl⟩ := hc C hC
  obtain ⟨k', cl'⟩ := hc D hD
  exact cl.exm cl'
theorem kit_own {cs : List Addr} {D : Addr} {j : Nat} (hc : ∀ C ∈ cs, ∃ k, Cl K C k) (cl : Cl K D j) (C : Addr) (x : Bool) (h : (if C ∈ cs then some (decide (C = D)) else none) = some x) : PySem.W.kitOne K (.ref C) (.ref D) = some x := by
  by_cases hC : C ∈ cs
  · rw [if_pos hC] at h
    obtain ⟨k, cl'⟩ := hc C hC
    rw [← h]
    exact cl'.own cl
  · rw [if_neg hC] at h
    cases h
def inT (ts : List (Addr × Bool)) (C : Addr) : Option Bool := (ts.find? fun p => decide (p.1 = C)).map (·.2)
theorem kit_bas {ts : List (Addr × Bool)} {T : String} (hm : PySem.W.kitMeta T = true) (hc : ∀ p ∈ ts, ∃ k, Cl K p.1 k ∧ (tl k).contains (.type T) = p.2) (C : Addr) (x : Bool) (h : inT ts C = some x) : PySem.W.kitOne K (.ref C) (.type T) = some x := by
  obtain ⟨p, h1, h2⟩ := Option.map_eq_some_iff.mp h
  have hp := List.mem_of_find?_eq_some h1
  have he : p.1 = C := of_decide_eq_true (p := p.1 = C) (by have := List.find?_some h1; simpa using this)
  obtain ⟨k, cl, hb⟩ := hc p hp
  subst h2
  rw [← he]
  exact cl.bas T p.2 hm hb
theorem no_of {cs : List Addr} {f : Str} (hc : ∀ C ∈ cs, PySem.W.findIn K (.ref C) f = some none) (C : Addr) (h : decide (C ∈ cs) = true) : PySem.W.findIn K (.ref C) f = some none := hc C (of_decide_eq_true h)
end
end Ov
set_option Elab.async false
set_option linter.all false
set_option maxRecDepth 100000
set_option maxHeartbeats 4000000
namespace Ov
open PySem L2
/-! a caught error: its class, its attribute -/
section
variable {K : PySem.W.Frag} {E : XK}
def excOf : R → Option (Addr × Str × PyData)
  | .exc C f d => some (C, f, d)
  | _ => none
theorem excOf_some {r : R} {x : Addr × Str × PyData} (h : excOf r = some x) : r = .exc x.1 x.2.1 x.2.2 := by
  cases r with
  | exc C f d => cases h; rfl
  | dat _ => cases h
  | slot _ => cases h
/-- isinstance(error, class), by the class of the error -/
def isiX (b : Addr → Option Bool) (fe : M R) : M R := M.bind fe fun r => M.bind (lift (excOf r)) fun x => M.bind (lift (b x.1)) fun y => M.pure (ofB y)
theorem OkE.isiX {te : TE} {fe : M R} {c : V} {u : Value} {b : Addr → Option Bool} (hu : ClsV c u) (kit : ∀ C x, b C = some x → PySem.W.kitOne K (.ref C) u = some x) (o : OkE K E te fe) : OkE K E (tCB (rIsC2 K) (tCons te (tCons (tC c) tNil))) (Ov.isiX b fe) := by
  refine ⟨?_⟩
  intro B σ H env l rs rp h Q post
  refine o.seq rp h post.exn fun a e v H1 h1 r1 f1 q1 => ?_
  obtain ⟨x, h2, h3⟩ := lift_step h1
  obtain ⟨y, h4, h5⟩ := lift_step h3
  cases h5
  rw [excOf_some h2] at q1
  obtain ⟨ad, w, rfl, cau, dw⟩ := q1
  exact ⟨ad, x.1, c, u, y, rfl, hu, (cau.same (off_sub _ _)).x, kit _ _ h4, post _ H1 r1 f1 (by cases y <;> exact .bl _)⟩
/-- error.attribute -/
def attrX (f : Str) (ok : Addr → Bool) (fe : M R) : M R := M.bind fe fun r => M.bind (lift (excOf r)) fun x => M.bind (lift (if x.2.1 = f ∧ ok x.1 = true then some x.2.2 else none)) fun d => M.pure (.dat d)
theorem OkE.attrX {te : TE} {fe : M R} {f : Str} {ok : Addr → Bool} (hf : f ≠ "") (no : ∀ C, ok C = true → PySem.W.findIn K (.ref C) f = some none) (o : OkE K E te fe) : OkE K E (tCaf K f te) (Ov.attrX f ok fe) := by
  refine ⟨?_⟩
  intro B σ H env l rs rp h Q post
  refine o.seq rp h post.exn fun a e v H1 h1 r1 f1 q1 => ?_
  obtain ⟨x, h2, h3⟩ := lift_step h1
  obtain ⟨d, h4, h5⟩ := lift_step h3
  cases h5
  by_cases hh : x.2.1 = f ∧ ok x.1 = true
  case neg => rw [if_neg hh] at h4; cases h4
  rw [if_pos hh] at h4
  cases h4
  rw [excOf_some h2] at q1
  obtain ⟨ad, w, rfl, cau, dw⟩ := q1
  have nf : x.2.1 ≠ "" := by rw [hh.1]; exact hf
  rcases cau with ⟨_, cau⟩ | ⟨z, _⟩
  case inr => exact absurd z nf
  refine ⟨ad, x.1, _, w, rfl, cau.same (off_sub _ _), no _ hh.2, ?_, post w H1 r1 f1 (dw nf)⟩
  rw [hh.1]
  simp [List.lookup]
end
end Ov
set_option Elab.async false
set_option linter.all false
set_option maxRecDepth 100000
set_option maxHeartbeats 4000000
set_option Elab.async false
set_option linter.all false
set_option maxRecDepth 100000
set_option maxHeartbeats 4000000
namespace Ov
open PySem L2
/-! several values at once, some of them lists of their own -/
inductive RvAll (K : PySem.W.Frag) (H G : Hp) : List V → List Wv → List Addr → Prop
  | nil : RvAll K H G [] [] []
  | cons {v : V} {w : Wv} {vs : List V} {ws : List Wv} {a b : List Addr} : RpW K H G v w a → RvAll K H G vs ws b → RvAll K H G (v :: vs) (w :: ws) (a ++ b)
section
variable {K : PySem.W.Frag} {E : XK} {bx : Nat}
theorem RvAll.mv {H H' G G' : Hp} (s : Same G G') : ∀ {vs : List V} {ws : List Wv} {l : List Addr}, RvAll K H G vs ws l → (∀ q ∈ l, H' q = H q) → RvAll K H' G' vs ws l
  | _, _, _, .nil, _ => .nil
  | _, _, _, .cons q r, k => .cons (q.mv s fun c z => k c (List.mem_append_left _ z)) (RvAll.mv s r fun c z => k c (List.mem_append_right _ z))
theorem RvAll.trk {H G : Hp} : ∀ {vs : List V} {ws : List Wv} {l : List Addr}, RvAll K H G vs ws l → ∀ q ∈ l, ∃ o, H q = some o ∧ NT o
  | _, _, _, .nil, q, z => by cases z
  | _, _, _, .cons h r, q, z => (List.mem_append.mp z).elim (fun z => RpW.trk h q z) fun z => RvAll.trk r q z
theorem RvAll.len {H G : Hp} : ∀ {vs : List V} {ws : List Wv} {l : List Addr}, RvAll K H G vs ws l → vs.length = ws.length
  | _, _, _, .nil => rfl
  | _, _, _, .cons _ r => by rw [List.length_cons, List.length_cons, RvAll.len r]
def PostV (K : PySem.W.Frag) (E : XK) (B : Addr → Prop) (σ : St) (H : Hp) (l : List Addr) (rs : Rs (List Wv)) (Q : List V → Hp → Prop) : Prop :=
  match rs with
  | .ok ws env' => ∀ vs H' lw, Rep K (un B lw) σ H' env' l → Fr l H H' → RvAll K H' (off (un (un B lw) l) H') vs ws lw → lw.Nodup → (∀ b ∈ lw, H b = none) → Q vs H'
  | .ex C f d => Exn K E B H l C f d
structure OkV (K : PySem.W.Frag) (E : XK) (t : TA) (f : M (List Wv)) : Prop where
  run : ∀ {B : Addr → Prop} {σ : St} {H : Hp} {env : En} {l : List Addr} {rs : Rs (List Wv)}, Rep K B σ H env l → f env = some rs → ∀ {Q : List V → Hp → Prop}, PostV K E B σ H l rs Q → t σ H Q
theorem PostV.exn {B : Addr → Prop} {σ : St} {H : Hp} {l : List Addr} {rs : Rs (List Wv)} {Q : List V → Hp → Prop} (h : PostV K E B σ H l rs Q) : ∀ C f d, rs = .ex C f d → Exn K E B H l C f d := fun C f d e => by subst e; exact h
theorem OkV.seq {α : Type} {ta : TA} {fa : M (List Wv)} {g : List Wv → M α} (oa : OkV K E ta fa) {B : Addr → Prop} {σ : St} {H : Hp} {env : En} {l : List Addr} {rs : Rs α} (r : Rep K B σ H env l) (h : (M.bind fa g) env = some rs) {Q : List V → Hp → Prop}
    (hx : ∀ C f d, rs = .ex C f d → Exn K E B H l C f d) (hq : ∀ a e v H' lw, g a e = some rs → Rep K (un B lw) σ H' e l → Fr l H H' → RvAll K H' (off (un (un B lw) l) H') v a lw → lw.Nodup → (∀ b ∈ lw, H b = none) → Q v H') : ta σ H Q := by
  rcases bind_some h with ⟨a, e, h1, h2⟩ | ⟨C, f, d, h1, h2⟩
  · exact oa.run r h1 (fun v H' lw r' fr q n1 n2 => hq a e v H' lw h2 r' fr q n1 n2)
  · exact oa.run r h1 (hx C f d h2)
def wnil : M (List Wv) := M.pure []
def wcons (f : M Wv) (g : M (List Wv)) : M (List Wv) := M.bind f fun a => M.bind g fun as => M.pure (a :: as)
theorem OkV.nil : OkV K E tNil wnil := by
  refine ⟨?_⟩
  intro B σ H env l rs rp h Q post
  cases h
  exact post [] H [] (by rw [un_nil]; exact rp) (Fr.refl _ _) .nil List.nodup_nil fun b z => by cases z
theorem OkV.cons {ta : TE} {tr : TA} {fa : M Wv} {fr : M (List Wv)} (oa : OkW K E ta fa) (or : OkV K E tr fr) : OkV K E (tCons ta tr) (wcons fa fr) := by
  refine ⟨?_⟩
  intro B σ H env l rs rp h Q post
  refine oa.seq rp h post.exn fun w1 e1 v1 H1 l1 h1 r1 f1 q1 nd1 fr1 => ?_
  have n1 : ∀ b ∈ l1, ¬ un B l b := fun b z => rp.fresh (fr1 b z)
  have ex1 : ∀ C f d, rs = .ex C f d → Exn K E (un B l1) H1 l C f d := fun C f d e => by
    have := (post.exn C f d e).later f1
    exact this.wide
  refine or.seq r1 h1 ex1 fun ws e2 vs H2 l2 h2 r2 f2 q2 nd2 fr2 => ?_
  cases h2
  have n2 : ∀ b ∈ l2, ¬ un (un B l1) l b := fun b z => r1.fresh (fr2 b z)
  refine post (v1 :: vs) H2 (l1 ++ l2) (by rw [← un_app]; exact r2) (f1.trans f2) (.cons ?_ (by rw [← un_app]; exact q2)) ?_ fun b z => ?_
  · rw [← un_app]
    refine q1.mv (off_mono (fun b z n => ?_) fun b o n e => f2 b o (fun z => n (.inr z)) e) fun b z => ?_
    · rcases z with (z | z) | z
      · exact absurd (.inl z) n
      · exact fr2 b z
      · exact absurd (.inr z) n
    · obtain ⟨o, e, _⟩ := q1.trk b z
      rw [e]
      exact f2 b o (fun y => n1 b z (.inr y)) e
  · exact List.nodup_append.mpr ⟨nd1, nd2, fun x hx y hy e => n2 y hy (.inl (.inr (e ▸ hx)))⟩
  · rcases List.mem_append.mp z with z | z
    · exact fr1 b z
    · cases q : H b with
      | none => rfl
      | some o =>
        have := f1 b o (fun y => n2 b z (.inr y)) q
        rw [fr2 b z] at this
        cases this
end
end Ov
set_option Elab.async false
set_option linter.all false
set_option maxRecDepth 100000
set_option maxHeartbeats 4000000
namespace L2
open PySem PySem.Spec PyProof.Rows
end L2
set_option Elab.async false
set_option linter.all false
set_option maxRecDepth 100000
set_option maxHeartbeats 4000000
set_option Elab.async false
set_option linter.all false
set_option maxRecDepth 100000
set_option maxHeartbeats 4000000
set_option Elab.async false
set_option linter.all false
set_option maxRecDepth 100000
set_option maxHeartbeats 4000000
namespace Ov
open PySem L2
/-! what each piece does, as equations to be put together by a tool -/
section
variable {α : Type} {env e e1 e2 e3 : En} {f g h : M R} {r s q : R} {rs : List R} {fa fr : M (List R)} {a b c d : PyData} {ds : List PyData} {F : List PyData → Option Wv} {t u : M Bool} {x y : Bool} {st su : M Fl} {i j : Nat} {W W2 : M Wv} {w w2 : Wv} {X : Option (Rs Fl)}
theorem get_x (h : env[i]? = some (some (.dat d))) : get i env = some (.ok (.dat d) env) := by rw [v_get, h]; rfl
theorem getO_x {xs : List It1} (h : env[i]? = some (some (.own xs))) : get i env = some (.ok (.slot i) env) := by rw [v_get, h]; rfl
theorem getE_x {C : Addr} {z : Str} (h : env[i]? = some (some (.exc C z d))) : get i env = some (.ok (.exc C z d) env) := by rw [v_get, h]; rfl
theorem con_x : con d env = some (.ok (.dat d) env) := rfl
theorem vwd_x : vw (.dat d) env = some (.ok d env) := rfl
theorem vws_x (h : env[i]? = some (some (.own (dats ds)))) : vw (.slot i) env = some (.ok (.list ds) env) := by
  rw [v_vws, h]
  show lift ((itds (dats ds)).map PyData.list) env = _
  rw [itds_dats]
  rfl
theorem op2_x {fo : PyData → PyData → Option PyData} (h1 : f env = some (.ok r e1)) (h2 : g e1 = some (.ok s e2)) (v1 : vw r e2 = some (.ok a e2)) (v2 : vw s e2 = some (.ok b e2)) (h3 : fo a b = some c) : op2 fo f g env = some (.ok (.dat c) e2) := by
  rw [v_op2, h1, v_ok, v_bind, h2, v_ok, v_bind, v1, v_ok, v_bind, v2, v_ok, v_bind, h3]
  rfl
theorem op1_x {fo : PyData → Option PyData} (h1 : f env = some (.ok r e1)) (v1 : vw r e1 = some (.ok a e1)) (h3 : fo a = some c) : op1 fo f env = some (.ok (.dat c) e1) := by
  rw [v_op1, h1, v_ok, v_bind, v1, v_ok, v_bind, h3]
  rfl
theorem anil_x : anil env = some (.ok [] env) := rfl
theorem acons_x (h1 : f env = some (.ok r e1)) (h2 : fr e1 = some (.ok rs e2)) : acons f fr env = some (.ok (r :: rs) e2) := by
  rw [v_acons, h1, v_ok, v_bind, h2]
  rfl
theorem vw0_x : vws [] env = some (.ok [] env) := rfl
theorem vwC_x (h1 : vw r env = some (.ok d env)) (h2 : vws rs env = some (.ok ds env)) : vws (r :: rs) env = some (.ok (d :: ds) env) := by
  rw [v_vwsC, h1, v_ok, v_bind, h2]
  rfl
theorem cb_x {fo : List PyData → Option PyData} (h1 : fa env = some (.ok rs e1)) (v : vws rs e1 = some (.ok ds e1)) (h : fo ds = some d) : cb fo fa env = some (.ok (.dat d) e1) := by
  rw [v_cb, h1, v_ok, v_bind, v, v_ok, v_bind, h]
  rfl
theorem tup_x (h1 : fa env = some (.ok rs e1)) (h2 : dds rs = some ds) (h3 : ds.length ≤ 1000000) : tupD fa env = some (.ok (.dat (.tuple ds)) e1) := by
  rw [v_tupD, h1, v_ok, v_bind, h2, v_lift, v_ok, v_bind, v_sz _ h3]
  rfl
theorem lst_x (h1 : fa env = some (.ok rs e1)) (h2 : dds rs = some ds) (h3 : ds.length ≤ 1000000) : lstD fa env = some (.ok (.dat (.list ds)) e1) := by
  rw [v_lstD, h1, v_ok, v_bind, h2, v_lift, v_ok, v_bind, v_sz _ h3]
  rfl
theorem lstW_x (h1 : fa env = some (.ok rs e1)) (h2 : dds rs = some ds) (h3 : ds.length ≤ 1000000) : lstW fa env = some (.ok (.own (dats ds)) e1) := by
  rw [v_lstW, h1, v_ok, v_bind, h2, v_lift, v_ok, v_bind, v_sz _ h3]
  rfl
theorem callA_x (h1 : fa env = some (.ok rs e1)) (h2 : dds rs = some ds) (h3 : F ds = some w) : callA F fa env = some (.ok w e1) := by
  rw [v_callA, h1, v_ok, v_bind, h2, v_lift, v_ok, h3]
  rfl
theorem ownD_x (h : env[i]? = some (some (.own (dats ds)))) : ownD i env = some (.ok ds env) := by
  rw [v_ownD, h]
  show lift (itds (dats ds)) env = _
  rw [itds_dats]
  rfl
theorem callB_x {FB : List PyData → List PyData → Option (Wv × List PyData)} {b0 bs bs' : List PyData} (h0 : env[i]? = some (some (.own (dats b0)))) (h1 : fa env = some (.ok rs e1)) (h2 : dds rs = some ds) (hb : e1[i]? = some (some (.own (dats bs)))) (h3 : FB bs ds = some (w, bs')) : callB i FB fa env = some (.ok w (e1.set i (some (.own (dats bs'))))) := by
  rw [v_callB, ownD_x h0, v_ok, v_bind, h1, v_ok, v_bind, h2, v_lift, v_ok, v_bind, ownD_x hb, v_ok, v_bind, h3]
  rfl
theorem fz_x (h : W env = some (.ok w e)) (hw : ofW w = some r) : fz W env = some (.ok r e) := by
  rw [v_fz, h, v_ok, hw]
  rfl
theorem pl_x (h : f env = some (.ok r e)) (hw : toW r = some w) : pl f env = some (.ok w e) := by
  rw [v_pl, h, v_ok, hw]
  rfl
theorem tb_x (h : f env = some (.ok r e)) (v : vw r e = some (.ok (.bool x) e)) : tb1 f env = some (.ok x e) := by
  rw [v_tb1, h, v_ok, v_bind, v]
  rfl
theorem orT_t (h : t env = some (.ok true e1)) : orT t u env = some (.ok true e1) := by rw [v_orT, h]; rfl
theorem orT_f (h : t env = some (.ok false e1)) (h2 : u e1 = some (.ok x e2)) : orT t u env = some (.ok x e2) := by rw [v_orT, h, v_ok, if_neg (by decide), h2]
theorem notT_x (h : t env = some (.ok x e1)) : notT t env = some (.ok (!x) e1) := by rw [v_notT, h]; rfl
theorem andV_t (h : tb1 f env = some (.ok true e1)) (h2 : g e1 = some (.ok r e2)) : andV f g env = some (.ok r e2) := by rw [v_andV, h, v_ok, if_pos rfl, h2]
theorem andV_f (h : tb1 f env = some (.ok false e1)) : andV f g env = some (.ok (.dat (.bool false)) e1) := by rw [v_andV, h]; rfl
theorem notV_x (h : tb1 f env = some (.ok x e1)) : notV f env = some (.ok (.dat (.bool (!x))) e1) := by rw [v_notV, h]; rfl
theorem ifE_t (h : t env = some (.ok true e1)) (h2 : f e1 = some (.ok r e2)) : ifE t f g env = some (.ok r e2) := by rw [v_ifE, h, v_ok, if_pos rfl, h2]
theorem ifE_f (h : t env = some (.ok false e1)) (h2 : g e1 = some (.ok r e2)) : ifE t f g env = some (.ok r e2) := by rw [v_ifE, h, v_ok, if_neg (by decide), h2]
theorem chain_t {fo fo' : PyData → PyData → Option PyData} {a b b' c d : PyData} (h1 : f env = some (.ok r e1)) (h2 : g e1 = some (.ok s e2)) (v1 : vw r e2 = some (.ok a e2)) (v2 : vw s e2 = some (.ok b e2)) (h3 : fo a b = some (.bool true)) (h4 : h e2 = some (.ok q e3)) (v3 : vw s e3 = some (.ok b' e3)) (v4 : vw q e3 = some (.ok c e3)) (h5 : fo' b' c = some d) : chainE fo fo' f g h env = some (.ok (.dat d) e3) := by
  rw [v_chainE, h1, v_ok, v_bind, h2, v_ok, v_bind, v1, v_ok, v_bind, v2, v_ok, v_bind, h3, v_lift, v_ok, v_bind, v_asB, v_lift, v_ok, if_pos rfl, v_bind, h4, v_ok, v_bind, v3, v_ok, v_bind, v4, v_ok, v_bind, h5]
  rfl
theorem chain_f {fo fo' : PyData → PyData → Option PyData} {a b : PyData} (h1 : f env = some (.ok r e1)) (h2 : g e1 = some (.ok s e2)) (v1 : vw r e2 = some (.ok a e2)) (v2 : vw s e2 = some (.ok b e2)) (h3 : fo a b = some (.bool false)) : chainE fo fo' f g h env = some (.ok (.dat (.bool false)) e2) := by
  rw [v_chainE, h1, v_ok, v_bind, h2, v_ok, v_bind, v1, v_ok, v_bind, v2, v_ok, v_bind, h3, v_lift, v_ok, v_bind, v_asB, v_lift, v_ok, if_neg (by decide)]
  rfl
theorem poN_x : poN env = some (.ok none env) := rfl
theorem poS_x {k : Int} (h : f env = some (.ok (.dat (.int k)) e)) : poS f env = some (.ok (some k) e) := by rw [v_poS, h]; rfl
theorem isN_x {n : Bool} (h : f env = some (.ok r e)) (hb : isNR r = some x) : isNE n f env = some (.ok (.dat (.bool (n ^^ x))) e) := by
  rw [v_isNE, h, v_ok, v_bind, hb]
  rfl
theorem isi2_x {T U : String} (h : f env = some (.ok r e)) (v : vw r e = some (.ok a e)) (hb : kitD T a = some x) (hb2 : kitD U a = some y) : isiE2 T U f env = some (.ok (.dat (.bool (x || y))) e) := by
  rw [v_isiE2, h, v_ok, v_bind, v, v_ok, v_bind, hb, v_lift, v_ok, v_bind, hb2]
  rfl
theorem mth_x {fo : List PyData → List PyData → Option (List PyData × PyData)} {b0 bs : List PyData} {z : List PyData × PyData} (h0 : env[i]? = some (some (.own (dats b0)))) (h1 : fa env = some (.ok rs e1)) (h2 : dds rs = some ds) (hb : e1[i]? = some (some (.own (dats bs)))) (h3 : fo bs ds = some z) : mthE i fo fa env = some (.ok (.dat z.2) (e1.set i (some (.own (dats z.1))))) := by
  rw [v_mthE, ownD_x h0, v_ok, v_bind, h1, v_ok, v_bind, h2, v_lift, v_ok, v_bind, ownD_x hb, v_ok, v_bind, h3]
  rfl
theorem then_x (h1 : st env = some (.ok .nx e)) (h2 : su e = X) : thenS st su env = X := (then_nx h1).trans h2
theorem then_r (h1 : st env = some (.ok (.rt w) e)) : thenS st su env = some (.ok (.rt w) e) := then_rt h1
theorem expr_x (h : f env = some (.ok r e)) : exprS f env = some (.ok .nx e) := by rw [v_exprS, h]; rfl
theorem ret_x (h : W env = some (.ok w e)) : retS W env = some (.ok (.rt w) e) := by rw [v_retS, h]; rfl
theorem ifS_t (h : t env = some (.ok true e)) (h2 : st e = X) : ifS t st su env = X := by rw [v_ifS, h, v_ok, if_pos rfl, h2]
theorem ifS_f (h : t env = some (.ok false e)) (h2 : su e = X) : ifS t st su env = X := by rw [v_ifS, h, v_ok, if_neg (by decide), h2]
theorem nxt_x : nxt env = some (.ok .nx env) := rfl
theorem set_x (h : W env = some (.ok w e)) (hi : i < e.length) : setS i W env = some (.ok .nx (e.set i (some w))) := by
  rw [v_setS, h, v_ok, v_bind, v_putM _ _ hi]
  rfl
theorem par_x (h : W env = some (.ok w e)) (h2 : W2 e = some (.ok w2 e2)) (hi : i < e2.length) (hj : j < e2.length) : parS i j W W2 env = some (.ok .nx ((e2.set i (some w)).set j (some w2))) := by
  rw [v_parS, h, v_ok, v_bind, h2, v_ok, v_bind, v_putM _ _ hi, v_ok, v_bind, v_putM _ _ (by rw [List.length_set]; exact hj)]
  rfl
theorem wnil_x : wnil env = some (.ok [] env) := rfl
theorem wcons_x {V : M (List Wv)} {ws : List Wv} (h : W env = some (.ok w e1)) (h2 : V e1 = some (.ok ws e2)) : wcons W V env = some (.ok (w :: ws) e2) := by
  show cont (W env) _ = _
  rw [h, v_ok, v_bind, h2]
  rfl
theorem un_x {p : PyData → En → Option En} (h : f env = some (.ok (.dat d) e1)) (hp : p d e1 = some e2) : unS p f env = some (.ok .nx e2) := by
  rw [v_unS, h, v_ok]
  show cont ((p d e1).map fun e => Rs.ok () e) _ = _
  rw [hp]
  rfl
theorem for_x {fi : M (List PyData)} {p : PyData → En → Option En} (h : fi env = some (.ok ds e)) (h2 : forM p st ds e = X) : forS fi p st env = X := by
  rw [v_forS, h, v_ok]
  exact h2
theorem seq_x (h : f env = some (.ok (.dat d) e)) (hs : seqD d = some ds) : seqI f env = some (.ok ds e) := by
  rw [v_seqI, h, v_ok, v_bind, v_asD, v_lift, v_ok, hs]
  rfl
theorem argI_x {fo : List PyData → Option (List PyData)} {es : List PyData} (h : fa env = some (.ok rs e)) (h2 : dds rs = some ds) (h3 : fo ds = some es) : argI fo fa env = some (.ok es e) := by
  rw [v_argI, h, v_ok, v_bind, h2, v_lift, v_ok, h3]
  rfl
theorem frz_x (h : env[i]? = some (some (.own (dats ds)))) (h2 : st (env.set i (some (.dat (.list ds)))) = X) : (M.bind (frzM i) fun _ => st) env = X := by
  rw [v_bind, v_frz i ds h, v_ok, h2]
theorem move_x (h : env[i]? = some (some (.own (dats ds)))) : moveS i env = some (.ok (.rt (.own (dats ds))) (env.set i none)) := v_moveS i _ h
theorem catW_x {xs ys : List PyData} (h1 : f env = some (.ok r e1)) (h2 : g e1 = some (.ok s e2)) (v1 : vw r e2 = some (.ok (.list xs) e2)) (v2 : vw s e2 = some (.ok (.list ys) e2)) (h3 : xs.length + ys.length ≤ 1000000) : catW f g env = some (.ok (.own (dats (xs ++ ys))) e2) := by
  rw [v_catW, h1, v_ok, v_bind, h2, v_ok, v_bind, v1, v_ok, v_bind, v2, v_ok, v_bind, v_cat _ _ h3]
  rfl
theorem eqI_f (k l : Int) : eqA false (.int k) (.int l) = some (.bool (decide (k = l))) := by rw [v_eqI, Bool.false_xor]
theorem eqI_t (k l : Int) : eqA true (.int k) (.int l) = some (.bool (!decide (k = l))) := by rw [v_eqI, Bool.true_xor]
theorem min_x (k l : Int) : minD [.int k, .int l] = some (.int (min k l)) := by rw [v_min]; congr 2; split <;> omega
theorem lenLm_x {β : Type} (l : List β) (z : β → PyData) : lenD [.list (l.map z)] = some (.int (l.length : Nat)) := by rw [v_lenL, List.length_map]
theorem lenTm_x {β : Type} (l : List β) (z : β → PyData) : lenD [.tuple (l.map z)] = some (.int (l.length : Nat)) := by rw [v_lenT, List.length_map]
theorem addI_x (k l : Int) : addD (.int k) (.int l) = some (.int (k + l)) := rfl
theorem leI_x (k l : Int) : leD (.int k) (.int l) = some (.bool (decide (k ≤ l))) := rfl
theorem gtI_x (k l : Int) : gtD (.int k) (.int l) = some (.bool (decide (l < k))) := rfl
end
/-- a comprehension over pictures, each element by what it gives -/
theorem comp_x {β : Type} {env : En} {p : PyData → En → Option En} {ft : M Bool} {fe : M R} {vs : List Nat} {z : β → PyData} (g : β → PyData) (t : β → Bool) : ∀ (l : List β) (acc : List PyData), acc.length + l.length < 1000000 →
    (∀ x ∈ l, ∃ e, p (z x) env = some e ∧ ft e = some (.ok (t x) e) ∧ (t x = true → fe e = some (.ok (.dat (g x)) e)) ∧ freeB e vs = true ∧ wipeE e vs = env) → compM p ft fe vs (l.map z) acc env = some (.ok (acc ++ (l.filter t).map g) env)
  | [], acc, _, _ => by simp [compM, M.pure]
  | x :: l, acc, hl, h => by
    obtain ⟨e, h1, h2, h3, h4, h5⟩ := h x (List.mem_cons_self ..)
    rw [List.length_cons] at hl
    rw [List.map_cons]
    cases q : t x with
    | true =>
      rw [q] at h2
      rw [comp_yes h1 h2 (h3 q) h4 (by omega), h5, comp_x g t l (acc ++ [g x]) (by rw [List.length_append]; show acc.length + 1 + _ < _; omega) fun y hy => h y (List.mem_cons_of_mem _ hy)]
      simp [q]
    | false =>
      rw [q] at h2
      rw [comp_no h1 h2 h4, h5, comp_x g t l acc (by omega) fun y hy => h y (List.mem_cons_of_mem _ hy)]
      simp [q]
theorem compM_x {β : Type} {env : En} {p : PyData → En → Option En} {ft : M Bool} {fe : M R} {vs : List Nat} {z : β → PyData} (g : β → PyData) (l : List β) (hl : l.length < 1000000)
    (h : ∀ x ∈ l, ∃ e, p (z x) env = some e ∧ ft e = some (.ok true e) ∧ fe e = some (.ok (.dat (g x)) e) ∧ freeB e vs = true ∧ wipeE e vs = env) : compM p ft fe vs (l.map z) [] env = some (.ok (l.map g) env) := by
  have := comp_x (env := env) (p := p) (ft := ft) (fe := fe) (vs := vs) (z := z) g (fun _ => true) l [] (by show 0 + _ < _; omega) fun x hx => by
    obtain ⟨e, h1, h2, h3, h4, h5⟩ := h x hx
    exact ⟨e, h1, h2, fun _ => h3, h4, h5⟩
  rw [List.filter_eq_self.mpr fun _ _ => rfl, List.nil_append] at this
  exact this
end Ov
set_option Elab.async false
set_option linter.all false
set_option maxRecDepth 100000
set_option maxHeartbeats 4000000
namespace Ov
open PySem L2
/-! general facts for the values of defs -/
def nI (i : Nat) : PyData := .int (i : Int)
section
variable {env e e1 e2 : En} {f g : M R} {r : R} {d : PyData} {x : Bool}
theorem isNf_x (h : f env = some (.ok r e)) (hb : isNR r = some x) : isNE false f env = some (.ok (.dat (.bool x)) e) := by
  rw [isN_x h hb, Bool.false_xor]
end
/-! ranges -/
theorem rng_int (a b : Nat) : (rngL (a : Int) (b : Int)).map PyData.int = (List.range' a (b - a)).map nI := by
  unfold rngL nI
  rw [List.map_map, List.range'_eq_map_range, List.map_map, show ((b : Int) - (a : Int)).toNat = b - a by omega]
  refine List.map_congr_left fun k _ => ?_
  show PyData.int ((a : Int) + (k : Int)) = .int ((a + k : Nat) : Int)
  rw [Int.natCast_add]
theorem rng1N {n : Nat} (h : n ≤ 1000000) : rngD [.int (n : Int)] = some ((List.range' 0 n).map nI) := by
  have g : -(2 ^ 62) ≤ (n : Int) ∧ (n : Int) < 2 ^ 62 := ⟨by omega, by omega⟩
  have := rng_int 0 n
  rw [Nat.sub_zero] at this
  rw [← this]
  show rngD [.int (n : Int)] = some ((rngL 0 (n : Int)).map .int)
  generalize (n : Int) = N at g ⊢
  exact if_pos g
theorem rng2N {a b : Nat} (h : a ≤ 1000000) (h2 : b ≤ 1000000) : rngD2 [.int (a : Int), .int (b : Int)] = some ((List.range' a (b - a)).map nI) := by
  have g : -(2 ^ 62) ≤ (a : Int) ∧ (a : Int) < 2 ^ 62 ∧ -(2 ^ 62) ≤ (b : Int) ∧ (b : Int) < 2 ^ 62 := ⟨by omega, by omega, by omega, by omega⟩
  rw [← rng_int]
  generalize (a : Int) = A at g ⊢
  generalize (b : Int) = N at g ⊢
  exact if_pos g
/-! shapes -/
def Sh (k : Nat) (d : PyData) : Prop := PyData.canLay0 d = true ∧ PyData.depth d ≤ k
theorem Sh.int (i : Int) {k : Nat} : Sh (k + 1) (.int i) := ⟨rfl, by show 0 ≤ _; omega⟩
theorem Sh.none {k : Nat} : Sh (k + 1) .none := ⟨rfl, by show 0 ≤ _; omega⟩
theorem Sh.bool (b : Bool) {k : Nat} : Sh (k + 1) (.bool b) := ⟨rfl, by show 0 ≤ _; omega⟩
theorem sh_all : ∀ {k : Nat} {l : List PyData}, (∀ x ∈ l, Sh k x) → PyData.canLayAll0 l = true ∧ PyData.depthAll l ≤ k
  | k, [], _ => ⟨rfl, Nat.zero_le _⟩
  | k, x :: l, h => by
    have h1 := h x (List.mem_cons_self ..)
    have h2 := sh_all fun y hy => h y (List.mem_cons_of_mem _ hy)
    constructor
    · show (PyData.canLay0 x && PyData.canLayAll0 l) = true
      rw [h1.1, h2.1]
      rfl
    · show max (PyData.depth x) (PyData.depthAll l) ≤ k
      have := h1.2
      have := h2.2
      omega
theorem Sh.lst {k : Nat} {l : List PyData} (h : ∀ x ∈ l, Sh k x) : Sh (k + 1) (.list l) := ⟨(sh_all h).1, by show PyData.depthAll l + 1 ≤ k + 1; have := (sh_all h).2; omega⟩
theorem Sh.tup {k : Nat} {l : List PyData} (h : ∀ x ∈ l, Sh k x) : Sh (k + 1) (.tuple l) := ⟨(sh_all h).1, by show PyData.depthAll l + 1 ≤ k + 1; have := (sh_all h).2; omega⟩
theorem Sh.mono {k m : Nat} {d : PyData} (h : Sh k d) (e : k ≤ m) : Sh m d := ⟨h.1, Nat.le_trans h.2 e⟩
/-! data without bools: equal by == only if the same -/
/-! items and parts of pictures -/
theorem ixT_map {β : Type} {z : β → PyData} {l : List β} {k : Nat} {x : β} (h : l[k]? = some x) : ixD (.tuple (l.map z)) (.int (k : Int)) = some (z x) := by
  have hk := (List.getElem?_eq_some_iff.mp h).1
  show (L2.ixN (l.map z).length (k : Int)).bind (fun j => (l.map z)[j]?) = _
  unfold L2.ixN
  rw [if_pos (by omega), if_pos (by rw [List.length_map]; omega)]
  show (l.map z)[(k : Int).toNat]? = _
  rw [Int.toNat_natCast, List.getElem?_map, h]
  rfl
theorem ixL_map {β : Type} {z : β → PyData} {l : List β} {k : Nat} {x : β} (h : l[k]? = some x) : ixD (.list (l.map z)) (.int (k : Int)) = some (z x) := ixT_map h
end Ov
set_option Elab.async false
set_option linter.all false
set_option maxRecDepth 100000
set_option maxHeartbeats 4000000
namespace Ov
section
open PySem PySem.Spec PyProof.Rows L2
/-! sorted of pairs of numbers, whatever they stand in -/
def PrsV (K : PySem.W.Frag) (H : Hp) (xs : List V) (ps : List (Int × Int)) : Prop := xs.length = ps.length ∧ ∀ (i : Nat) (x : V) (p : Int × Int), xs[i]? = some x → ps[i]? = some p → ∃ t, x = .ref t ∧ TP H t [.int p.1, .int p.2]
end
open PySem L2
/-! the same over data -/
section
variable {K : PySem.W.Frag} {E : XK}
theorem PrsV.same {H H' : Hp} (s : Same H H') {xs : List V} {ps : List (Int × Int)} (h : PrsV K H xs ps) : PrsV K H' xs ps :=
  ⟨h.1, fun i x p hx hp => by obtain ⟨t, e, q⟩ := h.2 i x p hx hp; exact ⟨t, e, q.same s⟩⟩
/-! [..] * n -/
end
end Ov
set_option Elab.async false
set_option linter.all false
set_option maxRecDepth 100000
set_option maxHeartbeats 4000000
namespace Ov
open PySem L2
section
variable {K : PySem.W.Frag} {E : XK}
/-- x if t else y, either of which may raise -/
theorem watIf {σ : St} {tt : TT} {ta tb : TE} {ft : M Bool} {fa fb : M Wv} (ot : OkT K E tt ft) (oa : OkWat K E σ ta fa) (ob : OkWat K E σ tb fb) : OkWat K E σ (tIf tt ta tb) (ifW ft fa fb) := by
  refine ⟨?_⟩
  intro B H env l rs rp h Q post
  refine ot.seq rp h post.exn fun b e H1 h1 r1 f1 => ?_
  have post1 : PostW K E B σ H1 l rs Q := by
    cases rs with
    | ok w e2 =>
      intro v H' lw r f q nd fr
      refine post v H' lw r (f1.trans f) q nd fun c z => ?_
      cases q2 : H c with
      | none => rfl
      | some o =>
        have := f1 c o (fun y => r1.fresh (fr c z) (.inr y)) q2
        rw [fr c z] at this
        cases this
    | ex C f d => exact (show Exn K E B H l C f d from post).later f1
  cases b with
  | true =>
    exact iteT (oa.run r1 (by simpa using h1) post1)
  | false =>
    exact iteF (ob.run r1 (by simpa using h1) post1)
/-- what a law's script is, and that its answer is True -/
def spT (K : PySem.W.Frag) : Sp := fun vs H Q _ => ∃ (a : Addr) (ns : List Int), vs = [.ref a] ∧ SqL K H a (ns.map V.int) ∧ ∀ v H', v = V.bl true → Q v H'
theorem spT_of {F : List PyData → Option Wv} (h : ∀ ns : List Int, F [.list (ns.map .int)] = some (.dat (.bool true))) {vs : List V} {H : Hp} {Q : VK} {E : XK} (z : spT K vs H Q E) : spA K F vs H Q E := by
  obtain ⟨a, ns, rfl, s, q⟩ := z
  refine ⟨fun _ => False, [.list (ns.map .int)], .dat (.bool true), .cons (.lst (rd_same (fun b o e => (off_ne (fun z => z)).trans e) s) (da_ints _)) .nil, fun _ z => z.elim, h ns, fun v H' lw _ r nd no => ?_⟩
  obtain ⟨_, d⟩ := r
  cases d
  exact q _ _ rfl
end
end Ov
set_option Elab.async false
set_option linter.all false
set_option maxRecDepth 100000
set_option maxHeartbeats 4000000
set_option Elab.async false
set_option linter.all false
set_option maxRecDepth 100000
set_option maxHeartbeats 4000000
namespace Ov
open PySem L2
/-! a def that may raise beside its reading in which nothing is raised -/
theorem FnG.imp {P : Program} {w : World} {K : PySem.W.Frag} {mg : Str → Option Value} {base : Heap} {k : Nat} {f : Addr} {fd : FuncData} {ps : List Str} {sp sp' : Sp} (F : FnG P w K mg base k f fd ps sp) (h : ∀ vs H Q E, sp' vs H Q E → sp vs H Q E) : FnG P w K mg base k f fd ps sp' :=
  ⟨fun q => F.count (h _ _ _ _ q), fun hg hr he hb hv hs => F.go hg hr he hb hv (h _ _ _ _ hs)⟩
/-! the one reading goes as far as the other -/
def Le {α : Type} (x y : M α) : Prop := ∀ env v, x env = some v → y env = some v
section
variable {α β : Type} {env e e1 e2 : En} {C : Addr} {fl : Str} {d : PyData}
theorem Le.refl (x : M α) : Le x x := fun _ _ h => h
/-! an error on its way -/
theorem bind_ex {x : M α} {f : α → M β} (h : x env = some (.ex C fl d)) : M.bind x f env = some (.ex C fl d) := by
  unfold M.bind
  rw [h]
theorem bind_go {x : M α} {f : α → M β} {a : α} {v : Option (Rs β)} (h : x env = some (.ok a e)) (g : f a e = v) : M.bind x f env = v := by
  unfold M.bind
  rw [h]
  exact g
theorem then_ex {a b : M Fl} (h : a env = some (.ex C fl d)) : thenS a b env = some (.ex C fl d) := bind_ex h
theorem callX_x {F : List PyData → Option Xo} {fa : M (List R)} {rs : List R} {ds : List PyData} {w : Wv} (h1 : fa env = some (.ok rs e1)) (h2 : dds rs = some ds) (h3 : F ds = some (.inl w)) : callX F fa env = some (.ok w e1) := by
  refine bind_go h1 (bind_go (show lift (dds rs) e1 = some (.ok ds e1) by rw [h2]; rfl) ?_)
  show (match F ds with | some (.inl w) => some (Rs.ok w e1) | some (.inr (C, f, d)) => some (.ex C f d) | none => none) = _
  rw [h3]
theorem callX_ex {F : List PyData → Option Xo} {fa : M (List R)} {rs : List R} {ds : List PyData} (h1 : fa env = some (.ok rs e1)) (h2 : dds rs = some ds) (h3 : F ds = some (.inr (C, fl, d))) : callX F fa env = some (.ex C fl d) := by
  refine bind_go h1 (bind_go (show lift (dds rs) e1 = some (.ok ds e1) by rw [h2]; rfl) ?_)
  show (match F ds with | some (.inl w) => some (Rs.ok w e1) | some (.inr (C, f, d)) => some (.ex C f d) | none => none) = _
  rw [h3]
theorem raise1_x {fa : M (List R)} {rs : List R} (h1 : fa env = some (.ok rs e1)) (h2 : dds rs = some [d]) : raiseS C fl fa env = some (.ex C fl d) :=
  bind_go h1 (bind_go (show lift (dds rs) e1 = some (.ok [d] e1) by rw [h2]; rfl) rfl)
theorem runX_ex {np n : Nat} {f : M Fl} {ds : List PyData} (hn : ds.length = np) (h : f (env0 ds (n - ds.length)) = some (.ex C fl d)) : runX np n f ds = some (.inr (C, fl, d)) := by
  unfold runX
  rw [if_pos hn, h]
theorem runX_rt {np n : Nat} {f : M Fl} {ds : List PyData} {w : Wv} (hn : ds.length = np) (h : ∃ e, f (env0 ds (n - ds.length)) = some (.ok (.rt w) e)) : runX np n f ds = some (.inl w) := by
  obtain ⟨e, h⟩ := h
  unfold runX
  rw [if_pos hn, h]
theorem keep_x {i j m : Nat} {cs : List Addr} {f : M Wv} {w : Wv} (h : f env = some (.ok w e)) (hi : i < e.length) : keepS i j m cs f env = some (.ok .nx (e.set i (some w))) := by
  unfold keepS
  rw [h]
  show (M.bind (putM i w) fun _ => M.pure Fl.nx) e = _
  exact bind_go (v_putM _ _ hi) rfl
theorem keep_ex {i j m : Nat} {cs : List Addr} {f : M Wv} (h : f env = some (.ex C fl d)) (hC : C ∈ cs) (hn : noOwn env = true) (hm : m < env.length) (hj : j < env.length) (jm : j ≠ m) (ej : isEmp env[j]? = true) : keepS i j m cs f env = some (.ok .nx (env.set m (some (.exc C fl d)))) := by
  unfold keepS
  rw [h]
  exact if_pos ⟨hC, hn, hm, hj, jm, ej⟩
theorem ifW_t {t : M Bool} {a b : M Wv} {v : Option (Rs Wv)} (h : t env = some (.ok true e)) (g : a e = v) : ifW t a b env = v := bind_go h g
theorem ifW_f {t : M Bool} {a b : M Wv} {v : Option (Rs Wv)} (h : t env = some (.ok false e)) (g : b e = v) : ifW t a b env = v := bind_go h g
theorem isiX_x {b : Addr → Option Bool} {f : M R} {y : Bool} (h : f env = some (.ok (.exc C fl d) e)) (hb : b C = some y) : isiX b f env = some (.ok (.dat (.bool y)) e) :=
  bind_go h (bind_go (show lift (excOf (.exc C fl d)) e = some (.ok (C, fl, d) e) from rfl) (bind_go (show lift (b C) e = some (.ok y e) by rw [hb]; rfl) rfl))
theorem attrX_x {f : Str} {ok : Addr → Bool} {fe : M R} (h : fe env = some (.ok (.exc C f d) e)) (hb : ok C = true) : attrX f ok fe env = some (.ok (.dat d) e) :=
  bind_go h (bind_go (show lift (excOf (.exc C f d)) e = some (.ok (C, f, d) e) from rfl) (bind_go (show lift (if f = f ∧ ok C = true then some d else none) e = some (.ok d e) by rw [if_pos ⟨rfl, hb⟩]; rfl) rfl))
end
end Ov
set_option Elab.async false
set_option linter.all false
set_option maxRecDepth 100000
set_option maxHeartbeats 4000000
namespace Ov
open PySem L2
/-! what is shown, by its size -/
def FL (L dep : Nat) (d : PyData) : Prop := d.hasDict = false ∧ d.depth ≤ dep ∧ d.showable = true ∧ d.shown.length ≤ L
theorem FL.int {i : Int} (h : -(10 ^ 30) ≤ i ∧ i ≤ 10 ^ 30) : FL 2000 1 (.int i) := leaf_fits (m := 0) (by decide) (show -(10 ^ 30 + ((0 : Nat) : Int)) ≤ i ∧ i ≤ 10 ^ 30 + ((0 : Nat) : Int) from ⟨by omega, by omega⟩)
theorem FL.none : FL 2000 1 .none := leaf_fits (m := 0) (by decide) trivial
theorem FL.mono {L L' dep dep' : Nat} {d : PyData} (h : FL L dep d) (e : L ≤ L') (e' : dep ≤ dep') : FL L' dep' d := ⟨h.1, Nat.le_trans h.2.1 e', h.2.2.1, Nat.le_trans h.2.2.2 e⟩
/-! which class an error is of -/
theorem inT_hd {C : Addr} {b : Bool} {ts : List (Addr × Bool)} : inT ((C, b) :: ts) C = some b := by unfold inT; rw [List.find?_cons_of_pos (by simp)]; rfl
/-! loops that end in an error -/
end Ov
set_option Elab.async false
set_option linter.all false
set_option maxRecDepth 100000
set_option maxHeartbeats 4000000
namespace Ov
open PySem L2
/-- x in numbers -/
theorem inF_ints (n : Bool) (h : Int) (ms : List Int) {d : PyData} (hd : seqD d = some (ms.map .int)) : inF n (.int h) d = some (.bool (n ^^ decide (h ∈ ms))) := by
  have at_ : (ms.map PyData.int).all atomD = true := List.all_eq_true.mpr fun d hd => by
    obtain ⟨i, _, rfl⟩ := List.mem_map.mp hd
    rfl
  have an : ((ms.map PyData.int).any fun z => PyData.eqv z (.int h)) = decide (h ∈ ms) := by
    rw [Bool.eq_iff_iff, List.any_eq_true, decide_eq_true_iff]
    constructor
    · rintro ⟨x, hx, e⟩
      obtain ⟨i, hi, rfl⟩ := List.mem_map.mp hx
      have : i = h := by simpa [PyData.eqv] using e
      exact this ▸ hi
    · exact fun hm => ⟨.int h, List.mem_map.mpr ⟨h, hm, rfl⟩, by simp [PyData.eqv]⟩
  unfold inF
  rw [hd]
  simp only
  rw [at_, an]
  rfl
end Ov
set_option Elab.async false
set_option linter.all false
set_option maxRecDepth 100000
set_option maxHeartbeats 4000000
namespace Ov
open PySem L2
/-! lists of own lists -/
def it1W : Wv → Option It1
  | .dat d => some (.dat d)
  | .own xs => (itds xs).map .own
  | _ => none
def it1s : List Wv → Option (List It1)
  | [] => some []
  | w :: ws => (it1W w).bind fun x => (it1s ws).map (x :: ·)
def lstN (fv : M (List Wv)) : M Wv := M.bind fv fun ws => M.bind (lift (it1s ws)) fun xs => M.bind (lift (sz xs.length)) fun _ => M.pure (.own xs)
section
variable {K : PySem.W.Frag} {E : XK}
theorem rp1_of {H G : Hp} {v : V} {w : Wv} {x : It1} {l : List Addr} (h : RpW K H G v w l) (e : it1W w = some x) : Rp1 K H G v x l := by
  cases w with
  | dat d => cases e; exact h
  | own xs =>
    obtain ⟨p, vs, b, e1, e2, e3, e4⟩ := h
    obtain ⟨ds, i1, i2⟩ := Option.map_eq_some_iff.mp (show (itds xs).map It1.own = some x from e)
    subst i2
    rw [itds_eq i1] at e4
    obtain ⟨rfl, q⟩ := rp1s_dats e4
    exact ⟨p, vs, e1, e2, e3, q⟩
  | exc C f d => cases e
  | dct _ => cases e
  | lin _ _ _ => cases e
  | dci kvs => cases e
  | dtk kvs => cases e
  | dts kvs => cases e
  | pin _ _ => cases e
  | dtn _ => cases e
  | dtd _ => cases e
  | nd _ => cases e
  | ndd _ => cases e
  | lkd _ => cases e
theorem rp1s_all {H G : Hp} : ∀ {vs : List V} {ws : List Wv} {xs : List It1} {l : List Addr}, RvAll K H G vs ws l → it1s ws = some xs → Rp1s K H G vs xs l
  | _, _, xs, _, .nil, e => by cases e; rfl
  | _, _, xs, _, .cons (w := w) (ws := ws) h t, e => by
    cases q : it1W w with
    | none => rw [it1s, q] at e; cases e
    | some x =>
      rw [it1s, q] at e
      obtain ⟨ys, e1, e2⟩ := Option.map_eq_some_iff.mp (show (it1s ws).map (x :: ·) = some xs from e)
      subst e2
      exact ⟨_, _, rfl, rp1_of h q, rp1s_all t e1⟩
theorem it1s_len : ∀ {ws : List Wv} {xs : List It1}, it1s ws = some xs → xs.length = ws.length
  | [], _, e => by cases e; rfl
  | w :: ws, xs, e => by
    cases q : it1W w with
    | none => rw [it1s, q] at e; cases e
    | some x =>
      rw [it1s, q] at e
      obtain ⟨ys, e1, e2⟩ := Option.map_eq_some_iff.mp (show (it1s ws).map (x :: ·) = some xs from e)
      subst e2
      rw [List.length_cons, List.length_cons, it1s_len e1]
theorem OkW.lstN {t : TA} {fv : M (List Wv)} (ov : OkV K E t fv) : OkW K E (tLst t) (lstN fv) := by
  refine ⟨?_⟩
  intro B σ H env l rs rp h Q post
  refine ov.seq rp h post.exn fun ws e vs H1 lw h1 r1 f1 q1 nd1 fr1 => ?_
  obtain ⟨xs, e1, h2⟩ := lift_step h1
  obtain ⟨u, e2, h3⟩ := lift_step h2
  cases h3
  have q2 := rp1s_all q1 e1
  refine ⟨by rw [q1.len, ← it1s_len e1]; exact sz_ok e2, fun p hp => ?_⟩
  have np : ¬ un (un B lw) l p := r1.fresh hp
  have s := same_new hp (.lst vs)
  refine post (.ref p) (upd H1 p (.lst vs)) (p :: lw) (r1.grow s (fun b z => z.imp id (List.mem_cons_of_mem _)) (fun b z => ?_) fun b z => ?_) (f1.trans (Fr.of s)) ⟨p, vs, lw, rfl, rfl, upd_same, ?_⟩ (List.nodup_cons.mpr ⟨fun z => np (.inl (.inr z)), nd1⟩) fun b z => ?_
  · rcases z with z | z
    · exact .inl (.inl z)
    · rcases List.mem_cons.mp z with rfl | z
      · exact .inr hp
      · exact .inl (.inr z)
  · rcases z with z | z
    · obtain ⟨o, e, n⟩ := r1.tb b (.inl z)
      exact ⟨o, s _ _ e, n⟩
    · rcases List.mem_cons.mp z with rfl | z
      · exact ⟨_, upd_same, trivial⟩
      · obtain ⟨o, e, n⟩ := r1.tb b (.inr z)
        exact ⟨o, s _ _ e, n⟩
  · refine q2.mv (off_mono (fun b z n => ?_) fun b o n e => s _ _ e) fun b z => ?_
    · rcases z with (z | z) | z
      · exact absurd (.inl (.inl z)) n
      · rcases List.mem_cons.mp z with rfl | z
        · exact hp
        · exact absurd (.inl (.inr z)) n
      · exact absurd (.inr z) n
    · refine upd_ne fun y => ?_
      subst y
      exact np (.inl (.inr z))
  · rcases List.mem_cons.mp z with rfl | z
    · cases q : H b with
      | none => rfl
      | some o =>
        have := f1 b o (fun y => np (.inr y)) q
        rw [hp] at this
        cases this
    · exact fr1 b z
/-! own lists lent to a call that gives back something plain -/
/-! x[k].append(v) -/
theorem Rp1s.focus : ∀ {H G : Hp} {vs : List V} {xs : List It1} {l : List Addr} {k : Nat} {x : It1}, Rp1s K H G vs xs l → xs[k]? = some x → ∃ v a lx ly, vs[k]? = some v ∧ l = lx ++ (a ++ ly) ∧ Rp1 K H G v x a ∧
    ∀ {H' G' : Hp} {x' : It1} {a' : List Addr}, Same G G' → (∀ q ∈ lx, H' q = H q) → (∀ q ∈ ly, H' q = H q) → Rp1 K H' G' v x' a' → Rp1s K H' G' vs (xs.set k x') (lx ++ (a' ++ ly))
  | H, G, [], [], l, k, x, h, q => by simp at q
  | H, G, v :: vs, x :: xs, l, 0, _, ⟨a, b, z, h1, h2⟩, q => by
    cases q
    exact ⟨v, a, [], b, rfl, z, h1, fun {H' G' x' a'} sg kx ky h' => ⟨a', b, rfl, h', h2.mv sg ky⟩⟩
  | H, G, v :: vs, x :: xs, l, k + 1, x0, ⟨a, b, z, h1, h2⟩, q => by
    obtain ⟨v0, a0, lx, ly, q1, q2, q3, q4⟩ := Rp1s.focus (k := k) (x := x0) h2 q
    refine ⟨v0, a0, a ++ lx, ly, q1, by rw [z, q2, List.append_assoc], q3, fun {H' G' x' a'} sg kx ky h' => ?_⟩
    refine ⟨a, lx ++ (a' ++ ly), by rw [List.append_assoc], h1.mv sg fun q y => kx q (List.mem_append_left _ y), q4 sg (fun q y => kx q (List.mem_append_right _ y)) ky h'⟩
theorem Rep.mutN {B : Addr → Prop} {σ : St} {H : Hp} {env : En} {l : List Addr} {i k : Nat} {xs : List It1} {ds : List PyData} (r : Rep K B σ H env l) (hx : env[i]? = some (some (.own xs))) (hk : xs[k]? = some (.own ds)) :
    ∃ p vs q us, σ[i]? = some (some (.ref p)) ∧ H p = some (.lst vs) ∧ vs[k]? = some (.ref q) ∧ q ∈ l ∧ H q = some (.lst us) ∧ DaAll K (off (un B l) H) us ds ∧
      ∀ {us' : List V} {ds' : List PyData}, DaAll K (off (un B l) H) us' ds' → Rep K B σ (upd H q (.lst us')) (env.set i (some (.own (xs.set k (.own ds'))))) l := by
  obtain ⟨s, a, lx, ly, q1, q2, ⟨v, rfl, p, vs, b, rfl, rfl, q6, q7⟩, q5⟩ := r.rp.focus hx
  obtain ⟨v, c, bx, by', k1, k2, ⟨q, us, rfl, rfl, k3, k4⟩, k5⟩ := q7.focus hk
  have ql : q ∈ l := by rw [q2, k2]; simp
  have nd := r.nd
  rw [q2, k2] at nd
  refine ⟨p, vs, q, us, q1, q6, k1, ql, k3, k4, fun {us' ds'} h' => ?_⟩
  have sub : Same (off (un B l) H) (off (un B l) (upd H q (.lst us'))) := off_mono (fun b z n => absurd z n) fun b o n e => by rw [upd_ne (fun z => n (.inr (by rw [z]; exact ql)))]; exact e
  have ne : ∀ z, z ∈ lx ∨ z = p ∨ z ∈ bx ∨ z ∈ by' ∨ z ∈ ly → z ≠ q := by
    intro z hz e
    subst e
    simp only [List.nodup_append, List.nodup_cons, List.mem_append, List.mem_cons, List.not_mem_nil, or_false] at nd
    grind
  refine ⟨?_, r.nd, r.out, fun b z => ?_⟩
  · have := q5 (H' := upd H q (.lst us')) (G' := off (un B l) (upd H q (.lst us'))) (s' := some (.ref p)) (e' := some (.own (xs.set k (.own ds')))) (a' := p :: (bx ++ ([q] ++ by'))) sub
      (fun z hz => upd_ne (ne z (.inl hz))) (fun z hz => upd_ne (ne z (.inr (.inr (.inr (.inr hz))))))
      ⟨_, rfl, p, vs, _, rfl, rfl, (upd_ne (ne p (.inr (.inl rfl)))).trans q6, k5 sub (fun z hz => upd_ne (ne z (.inr (.inr (.inl hz))))) (fun z hz => upd_ne (ne z (.inr (.inr (.inr (.inl hz)))))) ⟨q, us', rfl, rfl, upd_same, DaAll.same sub ds' h'⟩⟩
    rw [set_same q1] at this
    rw [← k2, ← q2] at this
    exact this
  · obtain ⟨o, e, n⟩ := r.tb b z
    exact ⟨o, by rw [upd_ne (fun y => r.out q ql (by rw [← y]; exact z))]; exact e, n⟩
def ownN (i k : Nat) : M (List PyData) := fun env =>
  match env[i]? with
  | some (some (.own xs)) => match xs[k]? with
    | some (.own ds) => some (.ok ds env)
    | _ => none
  | _ => none
theorem ownN_step {α : Type} {i k : Nat} {g : List PyData → M α} {env : En} {rs : Rs α} (h : (M.bind (ownN i k) g) env = some rs) : ∃ xs ds, env[i]? = some (some (.own xs)) ∧ xs[k]? = some (.own ds) ∧ g ds env = some rs := by
  have key : ∀ z, ownN i k env = some z → ∃ xs ds, env[i]? = some (some (.own xs)) ∧ xs[k]? = some (.own ds) ∧ z = .ok ds env := fun z hz => by
    unfold ownN at hz
    split at hz
    · rename_i xs hx
      split at hz
      · rename_i ds hd
        cases hz
        exact ⟨xs, ds, hx, hd, rfl⟩
      · cases hz
    · cases hz
  rcases bind_some h with ⟨a, e, h1, h2⟩ | ⟨C, f, d, h1, h2⟩
  · obtain ⟨xs, ds, e1, e2, e3⟩ := key _ h1
    cases e3
    exact ⟨_, _, e1, e2, h2⟩
  · obtain ⟨xs, ds, e1, e2, e3⟩ := key _ h1
    cases e3
def setN (i k : Nat) (ds : List PyData) : M Unit := fun env => match env[i]? with
  | some (some (.own xs)) => some (.ok () (env.set i (some (.own (xs.set k (.own ds))))))
  | _ => none
/-- with an argument that is a constant -/
def mthN (i k : Nat) (fo : List PyData → List PyData → Option (List PyData × PyData)) (as : List PyData) : M R := M.bind (ownN i k) fun ds => M.bind (lift (fo ds as)) fun r => M.bind (setN i k r.1) fun _ => M.pure (.dat r.2)
theorem atI_nat {α : Type} {xs : List α} {k : Nat} {v : α} (h : xs[k]? = some v) : L2.atI xs (k : Int) = some v := by
  have lt : k < xs.length := by
    by_cases z : k < xs.length
    · exact z
    · rw [List.getElem?_eq_none (by omega)] at h; cases h
  unfold L2.atI L2.ixN
  rw [if_pos (by omega), if_pos (by omega)]
  exact h
theorem OkE.mthN {i k : Nat} {u : V} {c : PyData} {r : V → List V → Hp → VK → Prop} {fo : List PyData → List PyData → Option (List PyData × PyData)} (o : MtOk K r fo) (hc : ∀ H : Hp, Da K H u c) : OkE K E (tBM K "list" r (tOp (rIx K) (tVar i) (fun _ H Q => Q (.int (k : Int)) H)) (tCons (fun _ H Q => Q u H) tNil)) (Ov.mthN i k fo [c]) := by
  refine ⟨?_⟩
  intro B σ H env l rs rp h Q post
  obtain ⟨xs, ds, hx, hk, h4⟩ := ownN_step h
  obtain ⟨⟨ds', d⟩, h5, h6⟩ := lift_step h4
  have h7 : (M.pure (.dat d) : M R) (env.set i (some (.own (xs.set k (.own ds'))))) = some rs := by
    have := h6
    unfold setN M.bind at this
    simp only [hx] at this
    exact this
  cases h7
  obtain ⟨p, vs0, q, us0, a1, a2, a3, a4, a5, a6, a7⟩ := rp.mutN hx hk
  refine ⟨.ref p, a1, .inl ⟨p, vs0, (k : Int), .ref q, rfl, rfl, SqL.of a2, atI_nat a3, .inl ⟨rfl, _, SqL.of a5⟩, ?_⟩⟩
  refine o a5 a6 (.cons (hc _) .nil) h5 fun v vs' d1 d2 => post v _ (a7 d1) (fr_upd a4) ?_
  refine Da.same (off_mono (fun b z n => absurd z n) fun b o n e => ?_) _ d2
  rw [upd_ne (fun z => n (.inr (by rw [z]; exact a4)))]
  exact e
end
section
variable {env e : En}
theorem lstN_x {fv : M (List Wv)} {ws : List Wv} {xs : List It1} (h : fv env = some (.ok ws e)) (h2 : it1s ws = some xs) (h3 : xs.length ≤ 1000000) : lstN fv env = some (.ok (.own xs) e) := by
  refine bind_go h (bind_go (show lift (it1s ws) e = some (.ok xs e) by rw [h2]; rfl) (bind_go (a := ()) (e := e) ?_ rfl))
  show lift (sz xs.length) e = _
  unfold sz
  rw [if_pos h3]
  rfl
theorem mthN_x {i k : Nat} {fo : List PyData → List PyData → Option (List PyData × PyData)} {as ds : List PyData} {xs : List It1} {z : List PyData × PyData} (hx : env[i]? = some (some (.own xs))) (hk : xs[k]? = some (.own ds)) (h : fo ds as = some z) : mthN i k fo as env = some (.ok (.dat z.2) (env.set i (some (.own (xs.set k (.own z.1)))))) := by
  refine bind_go (a := ds) (e := env) ?_ (bind_go (a := z) (e := env) (by rw [h]; rfl) (bind_go (a := ()) (e := env.set i (some (.own (xs.set k (.own z.1))))) ?_ rfl))
  · unfold ownN
    simp only [hx, hk]
  · unfold setN
    simp only [hx]
end
theorem it1s_0 : it1s [] = some [] := rfl
theorem it1s_o {L : List PyData} {ws : List Wv} {xs : List It1} (h : it1s ws = some xs) : it1s (.own (dats L) :: ws) = some (.own L :: xs) := by
  rw [it1s, it1W, itds_dats, h]
  rfl
end Ov
set_option Elab.async false
set_option linter.all false
set_option maxRecDepth 100000
set_option maxHeartbeats 4000000
set_option Elab.async false
set_option linter.all false
set_option maxRecDepth 100000
set_option maxHeartbeats 4000000
namespace Ov
open PySem L2
/-! a, b = a tuple or a list -/
def gUnE (K : PySem.W.Frag) (n : Nat) (t : TGs) : TG := fun v σ H Q => gTup K n t v σ H Q ∨ gUnl K n t v σ H Q
theorem pg_unE {X : Cx} {pos : Pos} {es : List Expr} {k : Nat} {t : TGs} {n : Nat} (hc : X.calm = true) (h : PGs X es t)
    (hn : (assignEach es X.env).length = n := by rfl) (hst : (assignEach es X.env).findIdx? (·.1) = none := by rfl) : PG X (.Tuple es k pos) (gUnE X.K n t) :=
  ⟨fun pins s σ H v u Q I r hw => hw.elim ((pg_tup hc h hn hst).run pins s σ H v u Q I r) ((pg_unl hc h hn hst).run pins s σ H v u Q I r)⟩
section
variable {K : PySem.W.Frag}
def gTL (q : List PyData → En → Option En) (d : PyData) (env : En) : Option En :=
  match d with
  | .tuple ds => q ds env
  | .list ds => q ds env
  | _ => none
theorem OkG.tupL {gs : TGs} {js : List Nat} {n : Nat} {q : List PyData → En → Option En} (os : OkGs K gs js n q) : OkG K (gUnE K n gs) js (gTL q) := by
  refine ⟨?_, ?_⟩
  · intro B σ H env env' l v d r h e Q k
    cases d with
    | tuple ds =>
      cases h with
      | tup hq ha =>
        exact .inl ⟨_, _, rfl, seqP (off_sub _ _) hq, (daAll_len ha).trans (os.len (show q ds env = some env' from e)), os.run r ha e k⟩
    | list ds =>
      cases h with
      | lst hq ha =>
        exact .inr ⟨_, _, rfl, rd_same (off_sub _ _) hq, (daAll_len ha).trans (os.len (show q ds env = some env' from e)), os.run r ha e k⟩
    | none => cases e
    | bool _ => cases e
    | int _ => cases e
    | str _ => cases e
    | dict _ => cases e
  · intro d env env' e
    cases d with
    | tuple ds => exact os.keep (show q ds env = some env' from e)
    | list ds => exact os.keep (show q ds env = some env' from e)
    | none => cases e
    | bool _ => cases e
    | int _ => cases e
    | str _ => cases e
    | dict _ => cases e
end
end Ov
set_option Elab.async false
set_option linter.all false
set_option maxRecDepth 100000
set_option maxHeartbeats 4000000
set_option Elab.async false
set_option linter.all false
set_option maxRecDepth 100000
set_option maxHeartbeats 4000000
namespace Ov
open PySem L2
section
variable {K : PySem.W.Frag} {E : XK} {bx : Nat}
theorem OkWat.seq {α : Type} {σ : St} {ta : TE} {fa : M Wv} {g : Wv → M α} (oa : OkWat K E σ ta fa) {B : Addr → Prop} {H : Hp} {env : En} {l : List Addr} {rs : Rs α} (r : Rep K B σ H env l) (h : (M.bind fa g) env = some rs) {Q : VK}
    (hx : ∀ C f d, rs = .ex C f d → Exn K E B H l C f d) (hq : ∀ a e v H' lw, g a e = some rs → Rep K (un B lw) σ H' e l → Fr l H H' → RpW K H' (off (un (un B lw) l) H') v a lw → lw.Nodup → (∀ b ∈ lw, H b = none) → Q v H') : ta σ H Q := by
  rcases bind_some h with ⟨a, e, h1, h2⟩ | ⟨C, f, d, h1, h2⟩
  · exact oa.run r h1 (fun v H' lw r' fr q n1 n2 => hq a e v H' lw h2 r' fr q n1 n2)
  · exact oa.run r h1 (hx C f d h2)
end
end Ov
set_option Elab.async false
set_option linter.all false
set_option maxRecDepth 100000
set_option maxHeartbeats 4000000
set_option Elab.async false
set_option linter.all false
set_option maxRecDepth 100000
set_option maxHeartbeats 4000000
set_option Elab.async false
set_option linter.all false
set_option maxRecDepth 100000
set_option maxHeartbeats 4000000
namespace Ov
open PySem L2 PySem.Spec PyProof.Rows
/-! dict(zip(a, b)), each of them a list or a tuple -/
theorem SeB.ob {t : Bool} {h : Heap} {l : Addr} {its : Array Value} (x : SeB t h l its) : ∃ o, h.get? l = some o := by
  cases t with
  | true => obtain ⟨o, e, _⟩ := x; exact ⟨o, e⟩
  | false => obtain ⟨o, e, _⟩ := x; exact ⟨o, e⟩
theorem SeB.up {t : Bool} {h h' : Heap} {l : Addr} {its : Array Value} (x : SeB t h l its) (f : ∀ o, h.get? l = some o → h'.get? l = some o) : SeB t h' l its := by
  cases t with
  | true => obtain ⟨o, e, r⟩ := x; exact ⟨o, f _ e, r⟩
  | false => obtain ⟨o, e, r⟩ := x; exact ⟨o, f _ e, r⟩
/-! as data -/
end Ov
set_option Elab.async false
set_option linter.all false
set_option maxRecDepth 100000
set_option maxHeartbeats 4000000
set_option Elab.async false
set_option linter.all false
set_option maxRecDepth 100000
set_option maxHeartbeats 4000000
set_option Elab.async false
set_option linter.all false
set_option maxRecDepth 100000
set_option maxHeartbeats 4000000
namespace Ov
section
open PySem PySem.Spec PySem.Calls PyProof.Rows L2
/-! sorted of tuples of numbers: all of them with items, or all without -/
/-- sorted(xs), xs a list of tuples of numbers -/
def NsV (K : PySem.W.Frag) (H : Hp) (xs : List V) (nss : List (List Int)) : Prop := xs.length = nss.length ∧ ∀ (i : Nat) (x : V) (ns : List Int), xs[i]? = some x → nss[i]? = some ns → ∃ t, x = .ref t ∧ TP H t (ns.map V.int)
end
open PySem L2
/-! the same over data -/
section
variable {K : PySem.W.Frag} {E : XK}
theorem NsV.same {H H' : Hp} (s : Same H H') {xs : List V} {nss : List (List Int)} (h : NsV K H xs nss) : NsV K H' xs nss :=
  ⟨h.1, fun i x p hx hp => by obtain ⟨t, e, q⟩ := h.2 i x p hx hp; exact ⟨t, e, q.same s⟩⟩
end
end Ov
set_option Elab.async false
set_option linter.all false
set_option maxRecDepth 100000
set_option maxHeartbeats 4000000
set_option Elab.async false
set_option linter.all false
set_option maxRecDepth 100000
set_option maxHeartbeats 4000000
namespace Ov
section
open PySem PySem.Spec L2
/-! sorted(set(xs)), xs pairs of small numbers -/
section
variable {K : PySem.W.Frag} {E : XK}
/-! truth of a list -/
def tbL (fa : M R) : M Bool := M.bind fa fun a => M.bind (vw a) fun d => match d with
  | .list ds => M.pure (!ds.isEmpty)
  | _ => fun _ => none
theorem OkT.tru {t : TE} {fa : M R} (oa : OkE K E t fa) : OkT K E (fun σ H Q => t σ H fun x H' => ∃ k, TruV K x H' k ∧ Q k H') (tbL fa) := by
  refine ⟨?_⟩
  intro B σ H env l rs rp h Q post
  refine oa.seq rp h post.exn fun a e v1 H1 h1 r1 f1 q1 => ?_
  obtain ⟨d, h2, w⟩ := vw_step r1 q1 h1
  cases d with
  | list ds =>
    cases h2
    obtain ⟨p, vs, rfl, hl, hd⟩ := vw_list w
    refine ⟨!ds.isEmpty, .inl ⟨vs, hl, ?_⟩, post H1 r1 f1⟩
    have := daAll_len hd
    cases vs <;> cases ds <;> simp_all
  | none => cases h2
  | int _ => cases h2
  | str _ => cases h2
  | bool _ => cases h2
  | tuple _ => cases h2
  | dict _ => cases h2
/-! x.extend(y), both own -/
end
end
end Ov
set_option Elab.async false
set_option linter.all false
set_option maxRecDepth 100000
set_option maxHeartbeats 4000000
namespace Ov
section
open PySem PySem.Spec L2
variable {K : PySem.W.Frag} {E : XK}
/-! x[k].append(y), k and y numbers in slots -/
theorem Rep.int {B : Addr → Prop} {σ : St} {H : Hp} {env : En} {l : List Addr} {j : Nat} {k : Int} (r : Rep K B σ H env l) (h : env[j]? = some (some (.dat (.int k)))) : σ[j]? = some (some (.int k)) := by
  obtain ⟨s, a, lx, ly, q1, q2, ⟨v, q3, q4⟩, _⟩ := r.rp.focus h
  subst q3
  have := q4.2
  cases this
  exact q1
/-! [[] for x in ..] -/
end
end Ov
set_option Elab.async false
set_option linter.all false
set_option maxRecDepth 100000
set_option maxHeartbeats 4000000
set_option Elab.async false
set_option linter.all false
set_option maxRecDepth 100000
set_option maxHeartbeats 4000000
set_option Elab.async false
set_option linter.all false
set_option maxRecDepth 100000
set_option maxHeartbeats 4000000
namespace L2
open PySem PySem.Spec PyProof.Rows
end L2
set_option Elab.async false
set_option linter.all false
set_option maxRecDepth 100000
set_option maxHeartbeats 4000000
namespace L2
open PySem PySem.Spec PyProof.Rows
/-! min of a list of pairs of numbers; the greatest value of a dict of tuples -/
end L2
set_option Elab.async false
set_option linter.all false
set_option maxRecDepth 100000
set_option maxHeartbeats 4000000
namespace L2
open PySem PySem.Spec PyProof.Rows
end L2
set_option Elab.async false
set_option linter.all false
set_option maxRecDepth 100000
set_option maxHeartbeats 4000000
set_option Elab.async false
set_option linter.all false
set_option maxRecDepth 100000
set_option maxHeartbeats 4000000
set_option Elab.async false
set_option linter.all false
set_option maxRecDepth 100000
set_option maxHeartbeats 4000000
set_option Elab.async false
set_option linter.all false
set_option maxRecDepth 100000
set_option maxHeartbeats 4000000
set_option Elab.async false
set_option linter.all false
set_option maxRecDepth 100000
set_option maxHeartbeats 4000000
set_option Elab.async false
set_option linter.all false
set_option maxRecDepth 100000
set_option maxHeartbeats 4000000
set_option Elab.async false
set_option linter.all false
set_option maxRecDepth 100000
set_option maxHeartbeats 4000000
namespace Ov
open PySem L2 PySem.Spec PyProof.Rows
/-! a comprehension over zip(a, b) with one name as target: the zip keeps its first pair -/
structure Lq (X : Cx) (pins : List (Addr × Obj)) (σ : L2.St) (t u : Bool) (a b : Addr) (xs ys : List V) (z m n c d : Addr) (H0 : Hp) (i : Nat) (H : Hp) (s : Shared) : Prop where
  lz : Lz X pins σ t u a b xs ys z m n c d H0 i H s
  nt : ∃ x y, IsTupOf2 s.heap n x y
section
variable {X : Cx} {pins : List (Addr × Obj)} {σ : L2.St} {t u : Bool} {a b z m n c d : Addr} {xs ys : List V} {H0 H : Hp} {i : Nat} {s : Shared} {A : Around} {E : Value → Shared → Prop}
theorem Lq.obj (L : Lq X pins σ t u a b xs ys z m n c d H0 i H s) : ∀ e ∈ [z, m, n, c, d], ∃ o, s.heap.get? e = some o ∧ ∀ v, o.data ≠ .cell v := fun e he => by
  simp only [List.mem_cons, List.not_mem_nil, or_false] at he
  rcases he with rfl | rfl | rfl | rfl | rfl
  · rcases L.lz.zs with ⟨k, _⟩ | ⟨T, f, x, y, k, _⟩
    · exact ⟨_, k, fun v q => nomatch q⟩
    · exact ⟨_, k, fun v q => nomatch q⟩
  · exact ⟨_, L.lz.tm, fun v q => nomatch q⟩
  · obtain ⟨x, y, k⟩ := L.nt; exact ⟨_, k, fun v q => nomatch q⟩
  · obtain ⟨o, k, z⟩ := L.lz.i1.ob; exact ⟨o, k, z⟩
  · obtain ⟨o, k, z⟩ := L.lz.i2.ob; exact ⟨o, k, z⟩
theorem Lq.item {Q : Option Value → Shared → Prop} {x y : V} (L : Lq X pins σ t u a b xs ys z m n c d H0 i H s) (hA : A.handled = none) (D : ZipSep2 z m n c d [c, a] [d, b]) (na : a ≠ c) (nb : b ≠ d) (ex : xs[i]? = some x) (ey : ys[i]? = some y)
    (q : ∀ (T : Addr) (o : Obj) (s' : Shared), H T = none → o.dict = none → Lq X pins σ t u a b xs ys z m n c d H0 (i + 1) (upd H T (.frz o (.tup [x, y]))) s' → Q (some (.ref T)) s') : wpAny (model X.prog X.w) A (pyNext (.ref z)) Q E s := by
  obtain ⟨L, x9, y9, n9⟩ := L
  have ln : n < s.heap.objs.size := Heap.lt_size n9
  obtain ⟨is, rx, px⟩ := (L.fa.same L.base).read L.inv
  obtain ⟨js, ry, py⟩ := (L.fb.same L.base).read L.inv
  obtain ⟨v1, e1, r1⟩ := rx.get ex
  obtain ⟨v2, e2, r2⟩ := ry.get ey
  have b1 : i < is.toArray.size := by simpa using (List.getElem?_eq_some_iff.mp e1).1
  have b2 : i < js.toArray.size := by simpa using (List.getElem?_eq_some_iff.mp e2).1
  have fr : H s.heap.objs.size = none := L.inv.hok.fresh (Nat.le_refl _)
  have lt : ∀ e ∈ [z, m, n, c, d], e < s.heap.objs.size := fun e he => by
    rcases L.obj e he with rfl | ⟨o, k⟩
    · exact ln
    · exact Heap.lt_size k
  have fin : ∀ (w1 w2 : Value) (h' : Heap) (tk : Nat), is.toArray[i]? = some w1 → js.toArray[i]? = some w2 → Zs h' (upd H s.heap.objs.size (.frz (bo [w1, w2]) (.tup [x, y]))) z m n → ItB t h' c a (i + 1) → ItB u h' d b (i + 1) → IsTupOf2 h' s.heap.objs.size w1 w2 → (∃ x y, IsTupOf2 h' n x y) →
      (∀ e o, e ≠ z → e ≠ n → e ≠ c → e ≠ d → s.heap.get? e = some o → h'.get? e = some o) → Q (some (.ref s.heap.objs.size)) { s with heap := h', toks := tk } := fun w1 w2 h' tk g1 g2 z' s1 s2 nw n' hk => by
    have c1 : w1 = v1 := Option.some.inj (g1.symm.trans (by simpa using e1))
    have c2 : w2 = v2 := Option.some.inj (g2.symm.trans (by simpa using e2))
    subst c1 c2
    have ok : ObjOk X.prog X.w (upd H s.heap.objs.size (.frz (bo [w1, w2]) (.tup [x, y]))) h' s.heap.objs.size (.frz (bo [w1, w2]) (.tup [x, y])) := bo_ok nw (.cons r1 (.cons r2 .nil)) (by show 2 ≤ sizeLine; decide)
    have I1 : Inv X pins σ (upd H s.heap.objs.size (.frz (bo [w1, w2]) (.tup [x, y]))) { s with heap := h', toks := tk } := by
      refine L.inv.turnedNew (t' := tk) (ch := [z, m, n, c, d]) (fun e o he k => ?_) L.free (Nat.le_refl _) ok
      simp only [List.mem_cons, List.not_mem_nil, or_false, not_or] at he
      exact hk e o he.1 he.2.2.1 he.2.2.2.1 he.2.2.2.2 k
    refine q _ _ _ fr rfl ⟨⟨I1, L.fa, L.fb, L.base.trans (same_new fr _), fun e he => ⟨?_, (L.free e he).2⟩, z', hk _ _ D.TIz D.TITO D.TIi1 D.TIi2 L.tm, s1, s2⟩, n'⟩
    rw [upd_ne (Nat.ne_of_lt (lt e he))]
    exact (L.free e he).1
  rcases L.zs with ⟨k, x0, y0, k0⟩ | ⟨T, f, x0, y0, k, k0⟩
  · refine wpAny_pyNext_zipD2_item D (drB t (A := A.in1) hA c a na is.toArray) (drB u (A := A.in1) hA d b nb js.toArray) k L.tm k0 ⟨L.i1, px⟩ ⟨L.i2, py⟩ b1 b2 ?_
    intro w1 w2 h' tk p1 p2 z' n' s1 s2 nw hsz hk
    exact fin w1 w2 h' tk p1 p2 (.inr ⟨s.heap.objs.size, false, x, y, z', TP.new rfl⟩) s1.1 s2.1 nw ⟨_, _, n'⟩ hk
  · obtain ⟨oT, kT⟩ := tup_live L.inv k0
    refine zh_item D (drB t (A := A.in1) hA c a na is.toArray) (drB u (A := A.in1) hA d b nb js.toArray) k kT L.tm ⟨L.i1, px⟩ ⟨L.i2, py⟩ b1 b2 ?_
    intro w1 w2 h' tk p1 p2 z' s1 s2 nw hk
    refine fin w1 w2 h' tk p1 p2 (.inr ⟨T, true, x0, y0, z', ?_⟩) s1.1 s2.1 nw ⟨_, _, hk _ _ D.TOz D.Ti1 D.Ti2 n9⟩ fun e o q1 _ q3 q4 => hk e o q1 q3 q4
    exact k0.same (same_new fr _)
end
end Ov
set_option Elab.async false
set_option linter.all false
set_option maxRecDepth 100000
set_option maxHeartbeats 4000000
set_option Elab.async false
set_option linter.all false
set_option maxRecDepth 100000
set_option maxHeartbeats 4000000
set_option Elab.async false
set_option linter.all false
set_option maxRecDepth 100000
set_option maxHeartbeats 4000000
set_option Elab.async false
set_option linter.all false
set_option maxRecDepth 100000
set_option maxHeartbeats 4000000
set_option Elab.async false
set_option linter.all false
set_option maxRecDepth 100000
set_option maxHeartbeats 4000000
set_option Elab.async false
set_option linter.all false
set_option maxRecDepth 100000
set_option maxHeartbeats 4000000
namespace Ov
open PySem L2 PySem.Spec PyProof.Rows
/-! len(set(l)), l a list of numbers -/
def difN (ns : List Int) : Nat := (firstMet (fun i => ns.getD i 0) ns.length).length
section
variable {X : Cx}
def tLenSetG (K : PySem.W.Frag) (ta : TE) : TE := fun σ H Q => ta σ H fun x H1 => ∃ (l : Addr) (ns : List Int), x = V.ref l ∧ SqL K H1 l (ns.map V.int) ∧ ns.length ≤ 1000 ∧ Q (.int (difN ns)) H1
theorem pe_lenSetG {a : Expr} {ta : TE} {p p2 q pos : Pos} (hc : X.calm = true) (hg : Gl X "len") (hm : X.mg "len" = none) (hg2 : Gl X "set") (hm2 : X.mg "set" = none) (ha : PE X a ta)
    (na : starEach [a] X.env = (false, eval a X.env) :: starEach [] X.env := by rfl) : PE X (.Call (.Name "len" p) [.Call (.Name "set" p2) [a] [] q] [] pos) (tLenSetG X.K ta) := by
  refine ⟨fun pins s σ H Q I h => Call_ (ld_blt I hg hm PySem.boot_len (callWith_builtin1 (args_cons (Call_ (ld_blt I hg2 hm2 boot_set (callWith_type1 (args_cons ?_ na) na rfl))) rfl) rfl rfl))⟩
  refine thn (ha.run pins s σ H _ I h) ?_
  rintro v s1 ⟨x, H1, J, r, l, ns, rfl, hq, hn, k⟩
  cases r
  refine args_nil ?_
  obtain ⟨its, rv, pt, hz⟩ := J.list hq
  have hi : IntsAre its.toArray.toList ns := ints_of_vals rv
  have sz : its.toArray.size = ns.length := by
    have q := IntsAre.length hi
    rw [Array.length_toList] at q
    exact q
  refine PySem.call_set_list (J.ok.hd hc) pt.isList hi (by unfold scanBound; omega) ?_
  rintro h' tk ⟨o, es, ep, t, ho, ex, hd, _, _, hb, hf, hs⟩ kp
  refine args_nil ?_
  rw [sz] at hs
  refine call_len_set ho ex hd hf (by unfold scanBound at hb; omega) ⟨.int es.size, H1, (J.kept fun b o e => kp b o (Heap.lt_size e) e).tok _, ⟨_, rfl⟩, ?_⟩
  rw [hs]
  exact k
end
def lenSetGD (a : PyData) : Option PyData :=
  match a with
  | .list ds => (intsD ds).bind fun ns => if ns.length ≤ 1000 then some (.int (difN ns)) else none
  | _ => none
section
variable {K : PySem.W.Frag} {E : XK}
theorem OkE.lenSetG {ta : TE} {fa : M R} (oa : OkE K E ta fa) : OkE K E (tLenSetG K ta) (op1 lenSetGD fa) := by
  refine ⟨?_⟩
  intro B σ H env l rs rp h Q post
  refine oa.seq rp h post.exn fun a e v H1 h1 r1 f1 q1 => ?_
  obtain ⟨x, h3, w1⟩ := vw_step r1 q1 h1
  obtain ⟨d, h5, h6⟩ := lift_step h3
  cases h6
  cases x with
  | list ds =>
    obtain ⟨ns, h7, h8⟩ := Option.bind_eq_some_iff.mp (show (intsD ds).bind _ = some d from h5)
    split at h8
    · rename_i hn
      cases h8
      obtain ⟨p, vs, rfl, e2, e3⟩ := vw_list w1
      rw [ints_da e3 h7] at e2
      exact ⟨p, ns, rfl, e2, hn, post _ H1 r1 f1 (.int _)⟩
    · cases h8
  | none => cases h5
  | bool _ => cases h5
  | int _ => cases h5
  | str _ => cases h5
  | tuple _ => cases h5
  | dict _ => cases h5
end
section
variable {X : Cx} {K : PySem.W.Frag} (hK : X.K = K)
include hK
theorem k_lenSetG {a : Expr} {ta : TE} {p p2 q pos : Pos} (hc : X.calm = true) (hg : Gl X "len") (hm : X.mg "len" = none) (hg2 : Gl X "set") (hm2 : X.mg "set" = none) (ha : PE X a ta)
    (na : starEach [a] X.env = (false, eval a X.env) :: starEach [] X.env := by rfl) : PE X (.Call (.Name "len" p) [.Call (.Name "set" p2) [a] [] q] [] pos) (tLenSetG K ta) := by subst hK; exact pe_lenSetG hc hg hm hg2 hm2 ha na
end
end Ov
set_option Elab.async false
set_option linter.all false
set_option maxRecDepth 100000
set_option maxHeartbeats 4000000
set_option Elab.async false
set_option linter.all false
set_option maxRecDepth 100000
set_option maxHeartbeats 4000000
set_option Elab.async false
set_option linter.all false
set_option maxRecDepth 100000
set_option maxHeartbeats 4000000
set_option Elab.async false
set_option linter.all false
set_option maxRecDepth 100000
set_option maxHeartbeats 4000000
set_option Elab.async false
set_option linter.all false
set_option maxRecDepth 100000
set_option maxHeartbeats 4000000
set_option Elab.async false
set_option linter.all false
set_option maxRecDepth 100000
set_option maxHeartbeats 4000000
set_option Elab.async false
set_option linter.all false
set_option maxRecDepth 100000
set_option maxHeartbeats 4000000
set_option Elab.async false
set_option linter.all false
set_option maxRecDepth 100000
set_option maxHeartbeats 4000000
set_option Elab.async false
set_option linter.all false
set_option maxRecDepth 100000
set_option maxHeartbeats 4000000
set_option Elab.async false
set_option linter.all false
set_option maxRecDepth 100000
set_option maxHeartbeats 4000000
set_option Elab.async false
set_option linter.all false
set_option maxRecDepth 100000
set_option maxHeartbeats 4000000
namespace L2
open PySem PySem.Spec PyProof.Rows
end L2
set_option Elab.async false
set_option linter.all false
set_option maxRecDepth 100000
set_option maxHeartbeats 4000000
namespace L2
open PySem PySem.Spec PyProof.Rows
end L2
set_option Elab.async false
set_option linter.all false
set_option maxRecDepth 100000
set_option maxHeartbeats 4000000
set_option Elab.async false
set_option linter.all false
set_option maxRecDepth 100000
set_option maxHeartbeats 4000000
set_option Elab.async false
set_option linter.all false
set_option maxRecDepth 100000
set_option maxHeartbeats 4000000
namespace L2
open PySem PySem.Spec PyProof.Rows
/-! sorted(d.items()), d a dict of numbers with numbers as values -/
end L2
set_option Elab.async false
set_option linter.all false
set_option maxRecDepth 100000
set_option maxHeartbeats 4000000
set_option Elab.async false
set_option linter.all false
set_option maxRecDepth 100000
set_option maxHeartbeats 4000000
namespace L2
open PySem PySem.Spec PyProof.Rows
/-! more of dicts with nested keys: their values in order, a walk over the keys, len; sets out of lists of numbers -/
end L2
set_option Elab.async false
set_option linter.all false
set_option maxRecDepth 100000
set_option maxHeartbeats 4000000
set_option Elab.async false
set_option linter.all false
set_option maxRecDepth 100000
set_option maxHeartbeats 4000000
namespace L2
open PySem PySem.Spec PyProof.Rows
/-! the sum of a tuple of numbers -/
end L2
set_option Elab.async false
set_option linter.all false
set_option maxRecDepth 100000
set_option maxHeartbeats 4000000
set_option Elab.async false
set_option linter.all false
set_option maxRecDepth 100000
set_option maxHeartbeats 4000000
namespace L2
open PySem PySem.Spec PyProof.Rows
/-! e.index(x): e a list of numbers, or a tuple of numbers whose object has no dict of its own; x is in it -/
end L2
set_option Elab.async false
set_option linter.all false
set_option maxRecDepth 100000
set_option maxHeartbeats 4000000
set_option Elab.async false
set_option linter.all false
set_option maxRecDepth 100000
set_option maxHeartbeats 4000000
namespace L2
open PySem PySem.Spec PyProof.Rows
/-! k in d, k not in d: d a dict of nested keys -/
end L2
set_option Elab.async false
set_option linter.all false
set_option maxRecDepth 100000
set_option maxHeartbeats 4000000
set_option Elab.async false
set_option linter.all false
set_option maxRecDepth 100000
set_option maxHeartbeats 4000000
set_option Elab.async false
set_option linter.all false
set_option maxRecDepth 100000
set_option maxHeartbeats 4000000
set_option Elab.async false
set_option linter.all false
set_option maxRecDepth 100000
set_option maxHeartbeats 4000000
set_option Elab.async false
set_option linter.all false
set_option maxRecDepth 100000
set_option maxHeartbeats 4000000
namespace L2
open PySem PySem.Spec PyProof.Rows
/-! the rules of such dicts -/
end L2
set_option Elab.async false
set_option linter.all false
set_option maxRecDepth 100000
set_option maxHeartbeats 4000000
namespace SG
open PySem PySem.Spec PyProof.Rows L2
/-! sets of up to 300 tuples: tables of up to 512 slots -/
def Mg (m : Nat) : Prop := MaskOk m ∨ m = 511
section
variable {m : Nat}
theorem way_in (h : Int) (k : Nat) : way m h k ≤ m := by
  have lt : SetTable.bits h % (m + 1) ≤ m := Nat.le_of_lt_succ (Nat.mod_lt _ (Nat.succ_pos _))
  have e := runEnd_bd lt
  have q := nth_in k (runAt m (SetTable.bits h % (m + 1)) (SetTable.bits h)) (show SetTable.bits h % (m + 1) + (SetTable.runEnd m (SetTable.bits h % (m + 1)) - SetTable.bits h % (m + 1)) ≤ m by omega)
  exact Nat.le_trans (Nat.le_add_right _ _) q
end
/-- a table in which each entry is found again -/
structure Tb (t : SetTable) (hs : List Int) : Prop where
  up : Ris t.place.toList
  nod : t.dummies = #[]
  cnt : t.place.size = hs.length
  msk : Mg t.mask
  low : ∀ x ∈ t.place.toList, x ≤ t.mask
  rch : ∀ (i : Nat) (h : Int) (j : Nat), hs[i]? = some h → t.place.toList[i]? = some j → ∃ k, way t.mask h k = j ∧ ∀ q, q < k → way t.mask h q ∈ t.place.toList
section
variable {t : SetTable} {hs : List Int}
theorem Tb.pl (T : Tb t hs) : t.place.toList.length = hs.length := by rw [Array.length_toList, T.cnt]
/-- one more entry -/
theorem Tb.ins (T : Tb t hs) {h : Int} {j p : Nat} (hp : SetTable.below t.place j = p) (hj : ∃ K, way t.mask h K = j ∧ ∀ q, q < K → way t.mask h q ∈ t.place.toList) (hn : j ∉ t.place.toList) :
    p ≤ hs.length ∧ Tb (t.put j).1 (hs.take p ++ h :: hs.drop p) ∧ (t.put j).1.fill = hs.length + 1 := by
  obtain ⟨K, eK, bK⟩ := hj
  have cut := (below_cut T.up j).1
  rw [hp] at cut
  have lp : p ≤ t.place.toList.length := by rw [Array.length_toList]; exact cut
  have lh : p ≤ hs.length := by rw [← T.pl]; exact lp
  have pp := put_place t j
  rw [hp] at pp
  have sz : (t.put j).1.place.size = hs.length + 1 := by rw [← Array.length_toList, pp, len_ins _ lp, T.pl]
  have old : ∀ x ∈ t.place.toList, x ∈ (t.put j).1.place.toList := fun x hx => by rw [pp]; exact mem_ins.mpr (.inr hx)
  refine ⟨lh, ⟨ris_insert T.up fun e => hn (List.mem_of_getElem? (by rw [Array.getElem?_toList]; exact e)), put_dm T.nod j, by rw [sz, len_ins _ lh], T.msk, fun x hx => ?_, fun i g y g1 g2 => ?_⟩, ?_⟩
  · rw [pp] at hx
    rcases mem_ins.mp hx with e | e
    · rw [e, ← eK]; exact way_in h K
    · exact T.low x e
  · rw [tins_get hs lh] at g1
    rw [pp, tins_get _ lp] at g2
    have keep : ∀ {n : Nat}, hs[n]? = some g → t.place.toList[n]? = some y → ∃ k, way t.mask g k = y ∧ ∀ q, q < k → way t.mask g q ∈ (t.put j).1.place.toList := fun {n} a b => by
      obtain ⟨k, k1, k2⟩ := T.rch n g y a b
      exact ⟨k, k1, fun q hq => old _ (k2 q hq)⟩
    rcases Nat.lt_trichotomy i p with c | c | c
    · rw [if_pos c] at g1 g2
      exact keep g1 g2
    · subst c
      rw [if_neg (Nat.lt_irrefl _), if_pos rfl] at g1 g2
      cases g1
      cases g2
      exact ⟨K, eK, fun q hq => old _ (bK q hq)⟩
    · rw [if_neg (by omega), if_neg (by omega)] at g1 g2
      exact keep g1 g2
  · have : (t.put j).1.fill = (t.put j).1.place.size + (t.put j).1.dummies.size := rfl
    rw [this, sz, put_dm T.nod j]
    rfl
end
/-! all laid anew -/
end SG
set_option Elab.async false
set_option linter.all false
set_option maxRecDepth 100000
set_option maxHeartbeats 4000000
namespace SG
open PySem PySem.Spec PyProof.Rows L2
/-- a set of tuples of numbers, at most 300 -/
structure SR (P : Program) (w : World) (h : Heap) (a : Addr) (L : List (Addr × List Int)) (es : Array (Int × Value)) (ep : Nat) (t : SetTable) : Prop where
  here : ∃ o, h.get? a = some o ∧ o.ExactSet ∧ o.data = .set es ep t
  ents : es.toList = rowsOf P w L
  tb : Tb t (L.map fun p => thash P w p.2)
  uni : (L.map (·.2)).Nodup
  tups : ∀ p ∈ L, IsT P w h p.2 p.1
  pln : t.plain = true
  ledd : w.params.followText "set-order" = true ∨ t.led = true
  roomy : L.length * 5 < t.mask * 3
  most : L.length ≤ 300
section
variable {P : Program} {w : World} {A : Around} {E : Value → Shared → Prop} {s : Shared} {h h' : Heap} {a : Addr} {L : List (Addr × List Int)} {es : Array (Int × Value)} {ep : Nat} {t : SetTable}
theorem SR.len (R : SR P w h a L es ep t) : t.place.toList.length = L.length := R.tb.pl.trans (List.length_map _)
theorem SR.keep (R : SR P w h a L es ep t) (k : ∀ b o, h.get? b = some o → h'.get? b = some o) : SR P w h' a L es ep t := by
  obtain ⟨o, ho, r⟩ := R.here
  exact ⟨⟨o, k a o ho, r⟩, R.ents, R.tb, R.uni, fun p hp => isT_keep (R.tups p hp) k, R.pln, R.ledd, R.roomy, R.most⟩
theorem SR.new (ho : h.get? a = some { cls := .type "set", dict := none, data := .set #[] 0 (.fresh 0 0 (!w.params.followText "set-order")) }) : SR P w h a [] #[] 0 (.fresh 0 0 (!w.params.followText "set-order")) := by
  refine ⟨⟨_, ho, ⟨rfl, rfl, rfl⟩, rfl⟩, rfl, ⟨List.Pairwise.nil, rfl, rfl, .inl (.inl rfl), fun x z => (by cases z), fun i g j z => (by simp at z)⟩, List.nodup_nil, fun p z => (by cases z), rfl, ?_, by show 0 * 5 < 7 * 3; decide, Nat.zero_le _⟩
  show w.params.followText "set-order" = true ∨ (!w.params.followText "set-order") = true
  cases w.params.followText "set-order" <;> simp
end
end SG
set_option Elab.async false
set_option linter.all false
set_option maxRecDepth 100000
set_option maxHeartbeats 4000000
set_option Elab.async false
set_option linter.all false
set_option maxRecDepth 100000
set_option maxHeartbeats 4000000
namespace L2
open PySem PySem.Spec PyProof.Rows
end L2
namespace L2
open PySem PySem.Spec PyProof.Rows
/-! dict(list of pairs) -/
/-- the tuples at ps are pairs of a key and a value -/
def PrX (H : Hp) : List Addr → List (NestedKey × V) → Prop
  | [], [] => True
  | p :: ps, kv :: kvs => (∃ b, Ov.TP H p [V.ref b, kv.2] ∧ Nk H (.ref b) kv.1 ∧ kv.1.depth ≤ 8) ∧ PrX H ps kvs
  | _, _ => False
theorem PrX.keep {H H' : Hp} (s : ∀ b xs, Ov.TP H b xs → Ov.TP H' b xs) : ∀ {ps : List Addr} {kvs : List (NestedKey × V)}, PrX H ps kvs → PrX H' ps kvs
  | [], [], _ => trivial
  | _ :: _, kv :: _, ⟨⟨b, t, n, d⟩, r⟩ => ⟨⟨b, s _ _ t, Nk.keep s kv.1 n, d⟩, PrX.keep s r⟩
  | [], _ :: _, h => h.elim
  | _ :: _, [], h => h.elim
end L2
set_option Elab.async false
set_option linter.all false
set_option maxRecDepth 100000
set_option maxHeartbeats 4000000
set_option Elab.async false
set_option linter.all false
set_option maxRecDepth 100000
set_option maxHeartbeats 4000000
set_option Elab.async false
set_option linter.all false
set_option maxRecDepth 100000
set_option maxHeartbeats 4000000
set_option Elab.async false
set_option linter.all false
set_option maxRecDepth 100000
set_option maxHeartbeats 4000000
namespace Ov
open PySem L2
/-! objects of class Line: their two lists -/
/-- the field: states (false), entries (true) -/
def fnm : Bool → Str
  | false => "states"
  | true => "entries"
def adr : Bool → Addr → Addr → Addr
  | false, a, _ => a
  | true, _, b => b
def ldt : Bool → List PyData → List PyData → List PyData
  | false, ss, _ => ss
  | true, _, es => es
def linW (C : Addr) : Bool → List PyData → List PyData → List PyData → Wv
  | false, ds, _, es => .lin C ds es
  | true, ds, ss, _ => .lin C ss ds
section
variable {K : PySem.W.Frag} {E : XK} {bx : Nat}
theorem LinC.no {C : Addr} (c : LinC K C) (z : Bool) : NoAttr K C (fnm z) := by cases z; exact c.ns; exact c.ne
theorem Rep.lin {B : Addr → Prop} {σ : St} {H : Hp} {env : En} {l : List Addr} {i : Nat} {C : Addr} {ss es : List PyData} (z : Bool) (r : Rep K B σ H env l) (hx : env[i]? = some (some (.lin C ss es))) :
    ∃ p dx a b vs, σ[i]? = some (some (.ref p)) ∧ LinC K C ∧ H p = some (.ins C dx (linF a b)) ∧ ¬ un B l p ∧ adr z a b ∈ l ∧ H (adr z a b) = some (.lst vs) ∧ DaAll K (off (un B l) H) vs (ldt z ss es) ∧
      ∀ {vs' : List V} {ds' : List PyData}, DaAll K (off (un B l) H) vs' ds' → Rep K B σ (upd H (adr z a b) (.lst vs')) (env.set i (some (linW C z ds' ss es))) l := by
  obtain ⟨s, la, lx, ly, q1, q2, ⟨v, rfl, hc, p, dx, a, b, vs, ws, rfl, rfl, e3, e5, e6, e7, e8⟩, q5⟩ := r.rp.focus hx
  obtain ⟨np, e3'⟩ := off_at e3
  have nd := r.nd
  rw [q2] at nd
  have al : a ∈ l := by rw [q2]; simp
  have bl : b ∈ l := by rw [q2]; simp
  have ab : a ≠ b := by
    intro e
    subst e
    simp only [List.nodup_append, List.nodup_cons, List.mem_append, List.mem_cons, List.not_mem_nil, or_false] at nd
    grind
  have ax : ∀ q, q ∈ lx ∨ q ∈ ly → q ≠ a ∧ q ≠ b := by
    intro q hq
    simp only [List.nodup_append, List.nodup_cons, List.mem_append, List.mem_cons, List.not_mem_nil, or_false] at nd
    constructor
    · intro e
      subst e
      grind
    · intro e
      subst e
      grind
  have fin : ∀ (c : Addr) (hc : c ∈ l) (o : HO) {w' : Wv}, RpE K (upd H c o) (off (un B l) (upd H c o)) σ (env.set i (some w')) l → Rep K B σ (upd H c o) (env.set i (some w')) l := fun c hc o w' h => ⟨h, r.nd, r.out, fun q z => by
    obtain ⟨o', e, n⟩ := r.tb q z
    exact ⟨o', by rw [upd_ne (fun y => r.out c hc (by rw [← y]; exact z))]; exact e, n⟩⟩
  have sub : ∀ c ∈ l, ∀ o, Same (off (un B l) H) (off (un B l) (upd H c o)) := fun c hc o => off_mono (fun b z n => absurd z n) fun b u n e => by rw [upd_ne (fun y => n (.inr (by rw [y]; exact hc)))]; exact e
  cases z with
  | false =>
    refine ⟨p, dx, a, b, vs, q1, hc, e3', np, al, e5, e6, fun {vs' ds'} h' => fin a al _ ?_⟩
    have := q5 (H' := upd H a (.lst vs')) (G' := off (un B l) (upd H a (.lst vs'))) (s' := some (.ref p)) (e' := some (.lin C ds' es)) (a' := [a, b]) (sub a al _) (fun q z => upd_ne (ax q (.inl z)).1) (fun q z => upd_ne (ax q (.inr z)).1)
      ⟨_, rfl, hc, p, dx, a, b, vs', ws, rfl, rfl, sub a al _ _ _ e3, upd_same, DaAll.same (sub a al _) _ h', (upd_ne (Ne.symm ab)).trans e7, DaAll.same (sub a al _) _ e8⟩
    rw [set_same q1] at this
    rw [← q2] at this
    exact this
  | true =>
    refine ⟨p, dx, a, b, ws, q1, hc, e3', np, bl, e7, e8, fun {vs' ds'} h' => fin b bl _ ?_⟩
    have := q5 (H' := upd H b (.lst vs')) (G' := off (un B l) (upd H b (.lst vs'))) (s' := some (.ref p)) (e' := some (.lin C ss ds')) (a' := [a, b]) (sub b bl _) (fun q z => upd_ne (ax q (.inl z)).2) (fun q z => upd_ne (ax q (.inr z)).2)
      ⟨_, rfl, hc, p, dx, a, b, vs, vs', rfl, rfl, sub b bl _ _ _ e3, (upd_ne ab).trans e5, DaAll.same (sub b bl _) _ e6, upd_same, DaAll.same (sub b bl _) _ h'⟩
    rw [set_same q1] at this
    rw [← q2] at this
    exact this
end
/-! equations -/
end Ov
set_option Elab.async false
set_option linter.all false
set_option maxRecDepth 100000
set_option maxHeartbeats 4000000
set_option Elab.async false
set_option linter.all false
set_option maxRecDepth 100000
set_option maxHeartbeats 4000000
set_option Elab.async false
set_option linter.all false
set_option maxRecDepth 100000
set_option maxHeartbeats 4000000
set_option Elab.async false
set_option linter.all false
set_option maxRecDepth 100000
set_option maxHeartbeats 4000000
namespace L2
open PySem PySem.Calls Builtin
/-! len of an object whose class has __len__ -/
end L2
set_option Elab.async false
set_option linter.all false
set_option maxRecDepth 100000
set_option maxHeartbeats 4000000
set_option Elab.async false
set_option linter.all false
set_option maxRecDepth 100000
set_option maxHeartbeats 4000000
namespace Ov
open PySem PySem.Spec PyProof.Rows L2
/-! a def with defaults (they stand at dV); the length of what a method is handed -/
structure FunD (K : PySem.W.Frag) (x qual : Str) (st : Stmt) (f : Addr) (fd : FuncData) (dV : Value) : Prop where
  ex : ∃ (oc : Value) (od : Option Addr) (kV doc pm : Value) (an : Option Addr) (cdv ct : Value) (osl : Array (Option Value)),
    fd = PySem.W.fnOf x qual (defArgs st) (defBody st) (defScope st) dV kV doc pm an cdv ct ∧ K.lookup f = some ⟨oc, od, .func fd, osl⟩ ∧ PySem.W.codeIn K cdv qual = true
section
variable {P : Program} {w : World} {K : PySem.W.Frag} {mg : Str → Option Value} {base : Heap}
theorem FunD.ok {x qual : Str} {st : Stmt} {f : Addr} {fd : FuncData} {dV : Value} {N ps : List Str} {k : Nat} {sp : Sp} (F : FunD K x qual st f fd dV) (S : FnScope N ps (defScope st)) (len : ∀ vs H Q E, sp vs H Q E → vs.length = ps.length)
    (hb : ∀ (cd : Value) (A : Around) (outer : List Env) (s : Shared) (H : Hp) (vs : List V) (Q : VK) (E : XK), Room k (A.deeper (envOfC qual (defScope st) s.heap.objs.size f cd)) → sp vs H Q E →
      ∃ t, PSs (cxOf CX0 P w K mg base N qual (defScope st) f cd A outer s H E).nox (defBody st) t ∧ t { nx := fun _ H' => Q .non H', rt := Q } (start N vs) H) : FnOk P w K mg base CX0 (k + 1) f fd ps sp := by
  obtain ⟨_, _, _, _, _, _, cd, _, _, rfl, lk, hcd⟩ := F.ex
  refine fn_of lk hcd S len fun A outer s H vs Q E hr hsp => ?_
  obtain ⟨t, h, q⟩ := hb cd A outer s H vs Q E hr hsp
  exact ⟨t, h.nox, q⟩
theorem FunD.binds {x qual : Str} {st : Stmt} {f : Addr} {fd : FuncData} {dV : Value} {ps : List Str} (F : FunD K x qual st f fd dV)
    (h : ∀ (kV doc pm : Value) (an : Option Addr) (cdv ct : Value) (us : List Value), us.length = ps.length → bindArgs (PySem.W.fnOf x qual (defArgs st) (defBody st) (defScope st) dV kV doc pm an cdv ct) ⟨us, []⟩ = pure (ps.zip us)) : Binds K fd ps [] := by
  obtain ⟨_, _, kV, doc, pm, an, cdv, ct, _, rfl, _, _⟩ := F.ex
  exact .all (h kV doc pm an cdv ct)
end
end Ov
set_option Elab.async false
set_option linter.all false
set_option maxRecDepth 100000
set_option maxHeartbeats 4000000
namespace Ov
open PySem L2
/-! statements that may raise after a change: the error comes with the slots as they stand then -/
inductive Rz where
  | ok (fl : Fl) (env : En)
  | ex (C : Addr) (f : Str) (d : PyData) (env : En)
abbrev MZ := En → Option Rz
section
variable {K : PySem.W.Frag} {E : XK} {m : Nat}
def ExZ (K : PySem.W.Frag) (E : XK) (B : Addr → Prop) (C : Addr) (f : Str) (d : PyData) (l' : List Addr) (H' : Hp) : Prop :=
  (f ≠ "" → ∀ dx v, ¬ B dx → dx ∉ l' → H' dx = some (.xd [(f, v)]) → Da K (off (Ov.un B l') H') v d → E (.ref C) (some dx) H') ∧ (f = "" → E (.ref C) none H')
def PostZ (K : PySem.W.Frag) (E : XK) (m : Nat) (B : Addr → Prop) (σ : St) (H : Hp) (l : List Addr) (rs : Rz) (D : Ends) : Prop :=
  match rs with
  | .ok fl env' => PostS K E m B σ H l (.ok fl env') D
  | .ex C f d env' => ∀ σ' H' l', Rep K B σ' H' env' l' → Fr2 l H l' H' → (∀ z : Fin m, σ'[z.1]? = σ[z.1]?) → ExZ K E B C f d l' H'
structure OkZ (K : PySem.W.Frag) (E : XK) (m : Nat) (t : TS) (f : MZ) : Prop where
  run : ∀ {B : Addr → Prop} {σ : St} {H : Hp} {env : En} {l : List Addr} {rs : Rz}, Rep K B σ H env l → f env = some rs → ∀ {D : Ends}, PostZ K E m B σ H l rs D → t D σ H
theorem PostZ.later {B : Addr → Prop} {σ σ1 : St} {H H1 : Hp} {l l1 : List Addr} {rs : Rz} {D : Ends} (h : PostZ K E m B σ H l rs D) (s : Fr2 l H l1 H1) (e0 : ∀ z : Fin m, σ1[z.1]? = σ[z.1]?) : PostZ K E m B σ1 H1 l1 rs D := by
  cases rs with
  | ok fl env => exact PostS.later h s e0
  | ex C f d env => exact fun σ' H' l' r f' b => h σ' H' l' r (s.trans f') fun z => (b z).trans (e0 z)
def ofS (f : M Fl) : MZ := fun env => match f env with
  | some (.ok fl e) => some (.ok fl e)
  | _ => none
theorem OkZ.of {t : TS} {f : M Fl} (o : OkS K E m t f) : OkZ K E m t (ofS f) := by
  refine ⟨?_⟩
  intro B σ H env l rs rp h D post
  unfold ofS at h
  split at h
  · rename_i fl e hz
    cases h
    exact o.run rp hz post
  · cases h
end
end Ov
set_option Elab.async false
set_option linter.all false
set_option maxRecDepth 100000
set_option maxHeartbeats 4000000
namespace L2
open PySem PySem.Spec PyProof.Rows
end L2
namespace Ov
open PySem L2
/-! calls of methods that may raise after a change -/
section
variable {K : PySem.W.Frag} {E : XK}
/-- a value at given slots that may be an error, with the slots as they stand then -/
inductive Rw where
  | ok (w : PyData) (env : En)
  | ex (C : Addr) (f : Str) (d : PyData) (env : En)
abbrev MW := En → Option Rw
structure OkZat (K : PySem.W.Frag) (E : XK) (σ : St) (t : TE) (f : MW) : Prop where
  run : ∀ {B : Addr → Prop} {H : Hp} {env : En} {l : List Addr} {rs : Rw}, Rep K B σ H env l → f env = some rs → ∀ {Q : VK}, (∀ d e, rs = .ok d e → ∀ v H', Rep K B σ H' e l → Fr l H H' → Da K (off (Ov.un B l) H') v d → Q v H') →
    (∀ C f d e, rs = .ex C f d e → ∀ H', Rep K B σ H' e l → Fr l H H' → ExZ K E B C f d l H') → t σ H Q
end
end Ov
set_option Elab.async false
set_option linter.all false
set_option maxRecDepth 100000
set_option maxHeartbeats 4000000
namespace Ov
open PySem L2
/-! try: x = q.m(..); except (A, B, ..) as error: caught = error, where m may raise after it has changed q -/
section
variable {K : PySem.W.Frag} {E : XK} {m : Nat}
def keepZ (i j mm : Nat) (cs : List Addr) (f : MW) : M Fl := fun env =>
  match f env with
  | some (.ok d e) => (M.bind (putM i (.dat d)) fun _ => M.pure Fl.nx) e
  | some (.ex C fl d e) => if C ∈ cs ∧ mm < e.length ∧ j < e.length ∧ j ≠ mm ∧ isEmp e[j]? = true then some (.ok .nx (e.set mm (some (.exc C fl d)))) else none
  | none => none
theorem OkS.keepZ {i j mm : Nat} {cs : List Addr} {te : WX → TE} {f : MW} (hb : ∀ z : Fin m, i ≠ z.1 ∧ j ≠ z.1 ∧ mm ≠ z.1) (o : ∀ (W : WX) (σ : St), OkZat K (fun cls d H' => W cls d σ H') σ (te W) f) (hc : ∀ C ∈ cs, ∃ k, Cl K C k) :
    OkS K E m (fun D σ H => tAsg (te (wKeep tE K (cs.map Value.ref) j (fun _ _ _ => tAsg (tVar j) (gName mm)) D)) (gName i) D σ H) (Ov.keepZ i j mm cs f) := by
  have hx : ∀ C ∈ cs, ∀ c ∈ cs.map Value.ref, PySem.W.exmOne K (.ref C) c = some (tE (.ref C) c) := fun C hC c hcc => by
    obtain ⟨D, hD, rfl⟩ := List.mem_map.mp hcc
    obtain ⟨k, cl⟩ := hc C hC
    obtain ⟨k', cl'⟩ := hc D hD
    exact cl.exm cl'
  have ht : ∀ C ∈ cs, (cs.map Value.ref).any (tE (.ref C)) = true := fun C hC => List.any_eq_true.mpr ⟨.ref C, List.mem_map.mpr ⟨C, hC, rfl⟩, decide_eq_true rfl⟩
  refine ⟨?_⟩
  intro B σ H env l rs rp h D post
  unfold Ov.keepZ at h
  cases hf : f env with
  | none => rw [hf] at h; cases h
  | some z =>
    rw [hf] at h
    cases z with
    | ok d e =>
      refine (o _ _).run rp hf (fun d' e' ed v H' r1 f1 q1 => ?_) fun _ _ _ _ ed => by cases ed
      cases ed
      obtain ⟨hi, h2⟩ := putM_step h
      cases h2
      have r1' : Rep K (Ov.un B []) σ H' e l := by rw [un_nil]; exact r1
      obtain ⟨l', r', mm'⟩ := r1'.put (i := i) (v := v) (w := .dat d) hi ⟨rfl, by rw [un_nil]; exact q1⟩ List.nodup_nil fun b z => by cases z
      exact post _ H' l' r' ⟨f1, fun b z => .inl ((mm' b z).resolve_right fun y => by cases y)⟩ fun z => List.getElem?_set_ne (hb z).1
    | ex C fl d e =>
      simp only at h
      split at h
      case isFalse => cases h
      rename_i hh
      obtain ⟨hC, hm, hj, jm, ej⟩ := hh
      cases h
      obtain ⟨k, cl⟩ := hc C hC
      refine (o _ _).run rp hf (fun _ _ ed => by cases ed) fun C' f' d' e' ed H' r1 f1 => ?_
      cases ed
      have sl : σ.length = e.length := r1.len
      have tail : ∀ (od : Option Addr) (v : V), (∀ a, H' a = none → CauF K (off (Ov.un B l) (upd H' a (exg a C od))) a C fl v) → (fl ≠ "" → Da K (off (Ov.un B l) H') v d) → wKeep tE K (cs.map Value.ref) j (fun _ _ _ => tAsg (tVar j) (gName mm)) D (.ref C) od σ H' := by
        intro od v ca dv
        refine ⟨C, rfl, hx C hC, ht C hC, fun a na => ?_⟩
        have sj : (σ.set j (some (.ref a)))[j]? = some (some (.ref a)) := by rw [List.getElem?_set_self (by omega)]
        refine ⟨.ref a, sj, ?_⟩
        have s2 : Same H' (upd H' a (exg a C od)) := same_new na _
        have r2 : Rep K B σ (upd H' a (exg a C od)) e l := r1.same s2
        show D.nx ((((σ.set j (some (.ref a))).set mm (some (.ref a))).set j none)) (upd H' a (exg a C od))
        have r3 : Rep K (Ov.un B []) σ (upd H' a (exg a C od)) e l := by rw [un_nil]; exact r2
        have sub : Same (off (Ov.un B l) H') (off (Ov.un B l) (upd H' a (exg a C od))) := off_mono (fun b z n => absurd z n) fun b o n e => s2 _ _ e
        obtain ⟨l', r4, mm'⟩ := r3.put (i := mm) (v := .ref a) (w := .exc C fl d) hm ⟨rfl, a, v, rfl, by rw [un_nil]; exact ca a na, fun z => by rw [un_nil]; exact Da.same sub d (dv z)⟩ List.nodup_nil fun b z => by cases z
        refine post _ _ l' ⟨r4.rp.any (by simp) fun p w hp => ?_, r4.nd, r4.out, r4.tb⟩ ⟨f1.trans (Fr.of s2), fun b z => .inl ((mm' b z).resolve_right fun y => by cases y)⟩ fun z => ?_
        · by_cases pj : p = j
          · subst pj
            rw [List.getElem?_set_ne (fun z => jm z.symm), isEmp_ok ej] at hp
            cases hp
          · rw [List.getElem?_set_ne (fun z => pj z.symm)]
            by_cases pm : p = mm
            · subst pm
              rw [List.getElem?_set_self (by rw [List.length_set]; omega), List.getElem?_set_self (by omega)]
            · rw [List.getElem?_set_ne (fun z => pm z.symm), List.getElem?_set_ne (fun z => pj z.symm), List.getElem?_set_ne (fun z => pm z.symm)]
        · rw [List.getElem?_set_ne (hb z).2.1, List.getElem?_set_ne (hb z).2.2, List.getElem?_set_ne (hb z).2.1]
      refine ⟨fun hne dx v nB nl hd dv => tail (some dx) v (fun a na => .inl ⟨hne, k, dx, cl, ?_, ?_⟩) fun _ => dv, fun he => tail none .non (fun a na => .inr ⟨he, k, cl, ?_⟩) fun z => absurd he z⟩
      · exact (off_ne (r1.fresh na)).trans upd_same
      · exact (off_ne fun z => z.elim nB nl).trans ((upd_ne fun z => by rw [z, na] at hd; cases hd).trans hd)
      · exact (off_ne (r1.fresh na)).trans upd_same
end
end Ov
set_option Elab.async false
set_option linter.all false
set_option maxRecDepth 100000
set_option maxHeartbeats 4000000
namespace L2
open PySem PySem.Calls Builtin
/-! repr of an object whose class has __repr__ -/
end L2
namespace Ov
open PySem L2
section
variable {K : PySem.W.Frag} {E : XK}
/-- repr(x) of slot i's object -/
def strR : R → Option Str
  | .dat (.str n) => some n
  | _ => none
theorem strR_some {r : R} {n : Str} (h : strR r = some n) : r = .dat (.str n) := by
  unfold strR at h
  split at h
  · cases h; rfl
  · cases h
end
end Ov
set_option Elab.async false
set_option linter.all false
set_option maxRecDepth 100000
set_option maxHeartbeats 4000000
set_option Elab.async false
set_option linter.all false
set_option maxRecDepth 100000
set_option maxHeartbeats 4000000
set_option Elab.async false
set_option linter.all false
set_option maxRecDepth 100000
set_option maxHeartbeats 4000000
namespace Ov
open PySem L2
section
variable {K : PySem.W.Frag} {E : XK}
/-- a suite that is tried, its error kept -/
structure KZ (K : PySem.W.Frag) (E : XK) (m j mm : Nat) (cs : List Addr) (tb : WX → TS) (f : M Fl) : Prop where
  ok : OkS K E m (fun D σ H => tb (wKeep tE K (cs.map Value.ref) j (fun _ _ _ => tAsg (tVar j) (gName mm)) D) D σ H) f
theorem KZ.set {m i j mm : Nat} {cs : List Addr} {te : WX → TE} {f : MW} (hb : ∀ z : Fin m, i ≠ z.1 ∧ j ≠ z.1 ∧ mm ≠ z.1) (o : ∀ (W : WX) (σ : St), OkZat K (fun cls d H' => W cls d σ H') σ (te W) f) (hc : ∀ C ∈ cs, ∃ k, Cl K C k) : KZ K E m j mm cs (fun W => tAsg (te W) (gName i)) (keepZ i j mm cs f) := ⟨OkS.keepZ hb o hc⟩
end
/-! equations -/
end Ov
set_option Elab.async false
set_option linter.all false
set_option maxRecDepth 100000
set_option maxHeartbeats 4000000
set_option Elab.async false
set_option linter.all false
set_option maxRecDepth 100000
set_option maxHeartbeats 4000000
set_option Elab.async false
set_option linter.all false
set_option maxRecDepth 100000
set_option maxHeartbeats 4000000
namespace Ov
open PySem L2
section
variable {K : PySem.W.Frag} {E : XK}
/-- {x} of a number -/
def fmtI (r : R) : Option Str := match r with
  | .dat (.int i) => if i.natAbs.log2 < 1920 then some (toString i) else none
  | _ => none
def fmtE (fa : M R) : M R := M.bind fa fun r => M.bind (lift (fmtI r)) fun y => M.pure (.dat (.str y))
theorem OkE.fmt {t : TE} {fa : M R} (oa : OkE K E t fa) : OkE K E (tFmt t) (fmtE fa) := by
  refine ⟨?_⟩
  intro B σ H env l rs rp h Q post
  refine oa.seq rp h post.exn fun r e v H1 h1 r1 f1 q1 => ?_
  obtain ⟨y, h2, h3⟩ := lift_step h1
  cases h3
  unfold fmtI at h2
  split at h2
  case h_2 => cases h2
  rename_i i
  split at h2
  case isFalse => cases h2
  rename_i hi
  cases h2
  have q2 : Da K (off (Ov.un B l) H1) v (.int i) := q1
  cases q2
  exact .inr ⟨i, rfl, hi, post _ _ r1 f1 (.str _)⟩
/-- the texts one behind another -/
def joinD : List (M R) → Str → M R
  | [], acc => M.pure (.dat (.str acc))
  | f :: fs, acc => M.bind f fun r => M.bind (lift (strR r)) fun y => M.bind (lift (chk (decide ((acc ++ y).length ≤ sizeLine)))) fun _ => joinD fs (acc ++ y)
inductive OkJL (K : PySem.W.Frag) (E : XK) : List TE → List (M R) → Prop where
  | nil : OkJL K E [] []
  | cons {t : TE} {f : M R} {ts : List TE} {fs : List (M R)} (h : OkE K E t f) (r : OkJL K E ts fs) : OkJL K E (t :: ts) (f :: fs)
theorem join_go : ∀ {ts : List TE} {fs : List (M R)}, OkJL K E ts fs → ∀ (acc : Str), OkE K E (fun σ H Q => tJs ts acc σ H fun out H1 => Q (.str out) H1) (joinD fs acc) := by
  intro ts fs h
  induction h with
  | nil =>
    intro acc
    refine ⟨?_⟩
    intro B σ H env l rs rp h Q post
    cases h
    exact post (.str acc) H rp (Fr.refl _ _) (.str _)
  | @cons t f ts fs ho hr ih =>
    intro acc
    refine ⟨?_⟩
    intro B σ H env l rs rp h Q post
    refine ho.seq rp h post.exn fun r e v H1 h1 r1 f1 q1 => ?_
    obtain ⟨y, h2, h3⟩ := lift_step h1
    obtain ⟨u, h4, h5⟩ := lift_step h3
    rw [strR_some h2] at q1
    have q2 : Da K (off (Ov.un B l) H1) v (.str y) := q1
    cases q2
    exact ⟨y, rfl, of_decide_eq_true (chk_ok h4), (ih (acc ++ y)).run r1 h5 (post.later f1)⟩
theorem OkE.join {ts : List TE} {fs : List (M R)} (h : OkJL K E ts fs) : OkE K E (fun σ H Q => tJs ts Str.empty σ H fun out H1 => Q (.str out) H1) (joinD fs Str.empty) := join_go h Str.empty
end
end Ov
set_option Elab.async false
set_option linter.all false
set_option maxRecDepth 100000
set_option maxHeartbeats 4000000
namespace L2
open PySem PySem.Spec PyProof.Rows
end L2
set_option Elab.async false
set_option linter.all false
set_option maxRecDepth 100000
set_option maxHeartbeats 4000000
namespace L2
open PySem PySem.Spec PyProof.Rows
/-! == and != of objects whose class has __eq__ -/
end L2
set_option Elab.async false
set_option linter.all false
set_option maxRecDepth 100000
set_option maxHeartbeats 4000000
set_option Elab.async false
set_option linter.all false
set_option maxRecDepth 100000
set_option maxHeartbeats 4000000
namespace Ov
open PySem L2
/-! dicts of nested keys whose values are data -/
section
variable {K : PySem.W.Frag} {E : XK} {bx : Nat}
theorem DVs.look {G : Hp} (k : NestedKey) : ∀ {us : List (NestedKey × V)} {ks : List (NestedKey × PyData)}, DVs K G us ks → (lookG us k = none ∧ lookG ks k = none) ∨ ∃ v d, lookG us k = some v ∧ lookG ks k = some d ∧ Da K G v d
  | [], [], _ => .inl ⟨rfl, rfl⟩
  | (j, v) :: us, (j', d) :: ks, ⟨⟨e1, e2⟩, r⟩ => by
    cases (show j = j' from e1)
    by_cases e : j = k
    · exact .inr ⟨v, d, if_pos e, if_pos e, e2⟩
    · rw [show lookG ((j, v) :: us) k = lookG us k from if_neg e, show lookG ((j, d) :: ks) k = lookG ks k from if_neg e]
      exact DVs.look k r
  | [], _ :: _, h => h.elim
  | _ :: _, [], h => h.elim
theorem DVs.app {G : Hp} : ∀ {us vs : List (NestedKey × V)} {ks js : List (NestedKey × PyData)}, DVs K G us ks → DVs K G vs js → DVs K G (us ++ vs) (ks ++ js)
  | [], _, [], _, _, h => h
  | _ :: _, _, _ :: _, _, ⟨a, r⟩, h => ⟨a, DVs.app r h⟩
  | [], _, _ :: _, _, h, _ => h.elim
  | _ :: _, _, [], _, h, _ => h.elim
theorem DVs.map {G : Hp} {k : NestedKey} {v : V} {d : PyData} (z : Da K G v d) : ∀ {us : List (NestedKey × V)} {ks : List (NestedKey × PyData)}, DVs K G us ks → DVs K G (us.map fun kv => if kv.1 = k then (kv.1, v) else kv) (ks.map fun kv => if kv.1 = k then (kv.1, d) else kv)
  | [], [], _ => trivial
  | (j, u) :: us, (j', d') :: ks, ⟨⟨e1, e2⟩, r⟩ => by
    cases (show j = j' from e1)
    refine ⟨?_, DVs.map z r⟩
    show (if j = k then (j, v) else (j, u)).1 = (if j = k then (j, d) else (j, d')).1 ∧ _
    by_cases e : j = k
    · simp only [if_pos e]; exact ⟨trivial, z⟩
    · simp only [if_neg e]; exact ⟨trivial, e2⟩
  | [], _ :: _, h => h.elim
  | _ :: _, [], h => h.elim
theorem DVs.put {G : Hp} {k : NestedKey} {v : V} {d : PyData} (z : Da K G v d) {us : List (NestedKey × V)} {ks : List (NestedKey × PyData)} (r : DVs K G us ks) : DVs K G (putG us k v) (putG ks k d) := by
  unfold putG
  rcases r.look k with ⟨e1, e2⟩ | ⟨v', d', e1, e2, _⟩
  · rw [e1, e2]; exact r.app ⟨⟨rfl, z⟩, trivial⟩
  · rw [e1, e2]; exact r.map z
theorem DVs.keys {G : Hp} : ∀ {us : List (NestedKey × V)} {ks : List (NestedKey × PyData)}, DVs K G us ks → us.map (·.1) = ks.map (·.1)
  | [], [], _ => rfl
  | _ :: _, kv :: _, ⟨⟨e, _⟩, r⟩ => by rw [List.map_cons, List.map_cons, e, DVs.keys r]
  | [], _ :: _, h => h.elim
  | _ :: _, [], h => h.elim
theorem DVs.len {G : Hp} {us : List (NestedKey × V)} {ks : List (NestedKey × PyData)} (h : DVs K G us ks) : us.length = ks.length := by
  have := congrArg List.length h.keys
  rwa [List.length_map, List.length_map] at this
theorem DVs.get {G : Hp} : ∀ {us : List (NestedKey × V)} {ks : List (NestedKey × PyData)} {i : Nat} {kv : NestedKey × V}, DVs K G us ks → us[i]? = some kv → ∃ d, ks[i]? = some (kv.1, d) ∧ Da K G kv.2 d
  | (j, u) :: us, (j', d') :: ks, 0, kv, ⟨⟨e1, e2⟩, _⟩, h => by
    cases h
    cases (show j = j' from e1)
    exact ⟨d', rfl, e2⟩
  | _ :: _, _ :: _, i + 1, kv, ⟨_, r⟩, h => DVs.get (i := i) r (by simpa using h)
  | [], [], _, _, _, h => by simp at h
  | [], _ :: _, _, _, h, _ => h.elim
  | _ :: _, [], _, _, h, _ => h.elim
theorem DVs.out {G : Hp} {k : NestedKey} : ∀ {us : List (NestedKey × V)} {ks : List (NestedKey × PyData)}, DVs K G us ks → DVs K G (outG us k) (outG ks k)
  | [], [], _ => trivial
  | (j, u) :: us, (j', d') :: ks, ⟨⟨e1, e2⟩, r⟩ => by
    cases (show j = j' from e1)
    have ih := DVs.out (k := k) r
    unfold outG at ih ⊢
    by_cases e : j = k
    · rw [List.filter_cons_of_neg (by simp [e]), List.filter_cons_of_neg (by simp [e])]
      exact ih
    · rw [List.filter_cons_of_pos (by simp [e]), List.filter_cons_of_pos (by simp [e])]
      exact ⟨⟨rfl, e2⟩, ih⟩
  | [], _ :: _, h => h.elim
  | _ :: _, [], h => h.elim
/-! the own slot -/
/-! read only -/
/-! what the readings do -/
end
end Ov
set_option Elab.async false
set_option linter.all false
set_option maxRecDepth 100000
set_option maxHeartbeats 4000000
set_option Elab.async false
set_option linter.all false
set_option maxRecDepth 100000
set_option maxHeartbeats 4000000
set_option Elab.async false
set_option linter.all false
set_option maxRecDepth 100000
set_option maxHeartbeats 4000000
namespace L2
open PySem PySem.Spec PyProof.Rows
/-! x[a:c] = y, c beyond the end too -/
end L2
set_option Elab.async false
set_option linter.all false
set_option maxRecDepth 100000
set_option maxHeartbeats 4000000
set_option Elab.async false
set_option linter.all false
set_option maxRecDepth 100000
set_option maxHeartbeats 4000000
set_option Elab.async false
set_option linter.all false
set_option maxRecDepth 100000
set_option maxHeartbeats 4000000
set_option Elab.async false
set_option linter.all false
set_option maxRecDepth 100000
set_option maxHeartbeats 4000000
namespace Ov
open PySem L2
/-! texts as data -/
section
variable {K : PySem.W.Frag} {E : XK}
def asS : R → Option Str
  | .dat (.str x) => some x
  | _ => none
theorem asS_some {r : R} {x : Str} (h : asS r = some x) : r = .dat (.str x) := by
  unfold asS at h
  split at h
  · cases h; rfl
  · cases h
theorem rpR_str {G : Hp} {σ : St} {v : V} {x : Str} (h : RpR K G σ v (.dat (.str x))) : v = .str x := by
  have h : Da K G v (.str x) := h
  cases h
  rfl
/-- x.name(): a method of a text that gives something plain -/
def txM0 (fo : Str → Option PyData) (fa : M R) : M R := M.bind fa fun r => M.bind (lift (asS r)) fun a => M.bind (lift (fo a)) fun d => M.pure (.dat d)
def TxOk0 (K : PySem.W.Frag) (r : V → List V → Hp → VK → Prop) (fo : Str → Option PyData) : Prop := ∀ {S : Addr → Prop} {H : Hp} {a : Str} {d : PyData}, fo a = some d → ∀ {Q : VK}, (∀ v H', Same H H' → Da K (off S H') v d → Q v H') → r (.str a) [] H Q
theorem OkE.txM0 {r : V → List V → Hp → VK → Prop} {fo : Str → Option PyData} {ta : TE} {fa : M R} (o : TxOk0 K r fo) (oa : OkE K E ta fa) : OkE K E (tM0 r ta) (Ov.txM0 fo fa) := by
  refine ⟨?_⟩
  intro B σ H env l rs rp h Q post
  refine oa.seq rp h post.exn fun a e v H1 h1 r1 f1 q1 => ?_
  obtain ⟨x, h2, h3⟩ := lift_step h1
  obtain ⟨d, h4, h5⟩ := lift_step h3
  cases h5
  rw [asS_some h2] at q1
  rw [rpR_str q1]
  exact ⟨⟨x, rfl⟩, o h4 fun v H' s q => post v H' (r1.same s) (f1.trans (Fr.of s)) q⟩
theorem txM0_x {env e : En} {fo : Str → Option PyData} {fa : M R} {a : Str} {d : PyData} (h : fa env = some (.ok (.dat (.str a)) e)) (h2 : fo a = some d) : txM0 fo fa env = some (.ok (.dat d) e) :=
  bind_go h (bind_go (a := a) (e := e) rfl (bind_go (a := d) (e := e) (by rw [h2]; rfl) rfl))
/-- x.name(y) -/
def txM1 (fo : Str → PyData → Option PyData) (fa fb : M R) : M R := M.bind fa fun r => M.bind (lift (asS r)) fun a => M.bind fb fun s => M.bind (vw s) fun y => M.bind (lift (fo a y)) fun d => M.pure (.dat d)
def TxOk1 (K : PySem.W.Frag) (r : V → List V → Hp → VK → Prop) (fo : Str → PyData → Option PyData) : Prop := ∀ {S : Addr → Prop} {H : Hp} {a : Str} {y : V} {b d : PyData}, (∀ q, S q → ∃ o, H q = some o ∧ NT o) → Vw K S H y b → fo a b = some d → ∀ {Q : VK}, (∀ v H', Same H H' → Da K (off S H') v d → Q v H') → r (.str a) [y] H Q
theorem OkE.txM1 {r : V → List V → Hp → VK → Prop} {fo : Str → PyData → Option PyData} {ta tb : TE} {fa fb : M R} (o : TxOk1 K r fo) (oa : OkE K E ta fa) (ob : OkE K E tb fb) : OkE K E (tM1 r ta tb) (Ov.txM1 fo fa fb) := by
  refine ⟨?_⟩
  intro B σ H env l rs rp h Q post
  refine oa.seq rp h post.exn fun a e v H1 h1 r1 f1 q1 => ?_
  obtain ⟨x, h2, h3⟩ := lift_step h1
  rw [asS_some h2] at q1
  rw [rpR_str q1]
  refine ⟨⟨x, rfl⟩, ?_⟩
  refine ob.seq r1 h3 (exn_later post.exn f1) fun s e2 y H2 h4 r2 f2 q2 => ?_
  obtain ⟨b, h5, w⟩ := vw_step r2 q2 h4
  obtain ⟨d, h6, h7⟩ := lift_step h5
  cases h7
  exact o r2.tl w h6 fun v H' s q => post v H' (r2.same s) ((f1.trans f2).trans (Fr.of s)) q
theorem txM1_x {env e1 e2 : En} {fo : Str → PyData → Option PyData} {fa fb : M R} {a : Str} {s : R} {b d : PyData} (h : fa env = some (.ok (.dat (.str a)) e1)) (h2 : fb e1 = some (.ok s e2)) (v : vw s e2 = some (.ok b e2)) (h3 : fo a b = some d) : txM1 fo fa fb env = some (.ok (.dat d) e2) :=
  bind_go h (bind_go (a := a) (e := e1) rfl (bind_go h2 (bind_go v (bind_go (a := d) (e := e2) (by rw [h3]; rfl) rfl))))
/-! isdigit, isascii -/
def rFlag (g : Str → Bool) : V → List V → Hp → VK → Prop := fun x xs H Q => ∃ a, x = .str a ∧ xs = [] ∧ True ∧ Q (.bl (g a)) H
def flagD (g : Str → Bool) (a : Str) : Option PyData := some (.bool (g a))
theorem ok_flag (g : Str → Bool) : TxOk0 K (rFlag g) (flagD g) := by
  intro S H a d e Q q
  cases e
  exact ⟨a, rfl, rfl, trivial, q _ _ (same_refl _) (.bl _)⟩
/-! join -/
def strsD : List PyData → Option (List Str)
  | [] => some []
  | .str x :: r => (strsD r).map (x :: ·)
  | _ :: _ => none
theorem strsD_map : ∀ ys : List Str, strsD (ys.map .str) = some ys
  | [] => rfl
  | y :: ys => by show (strsD (ys.map .str)).map (y :: ·) = _; rw [strsD_map ys]; rfl
theorem strsD_da {H : Hp} : ∀ {vs : List V} {ds : List PyData} {ys : List Str}, DaAll K H vs ds → strsD ds = some ys → vs = ys.map V.str
  | [], [], ys, .nil, e => by cases e; rfl
  | v :: vs, d :: ds, ys, .cons h t, e => by
    cases d with
    | str x =>
      obtain ⟨zs, e1, rfl⟩ := Option.map_eq_some_iff.mp (show (strsD ds).map (x :: ·) = some ys from e)
      cases h
      rw [strsD_da t e1]
      rfl
    | _ => cases e
def rJoin (K : PySem.W.Frag) : V → List V → Hp → VK → Prop := fun x xs H Q => ∃ a p, ∃ ys : List Str, x = .str a ∧ xs = [.ref p] ∧ (SqL K H p (ys.map V.str) ∨ SqT K H p (ys.map V.str)) ∧
  (ys.map (·.length)).sum + ys.length * a.length ≤ 16777216 ∧ Q (.str (Txt.join a ys)) H
def joinTD (a : Str) (b : PyData) : Option PyData := (seqD b).bind fun ds => (strsD ds).bind fun ys => if (ys.map (·.length)).sum + ys.length * a.length ≤ 1000000 then some (.str (Txt.join a ys)) else none
theorem ok_join : TxOk1 K (rJoin K) joinTD := by
  intro S H a y b d hS w e Q q
  obtain ⟨ds, e1, e2⟩ := Option.bind_eq_some_iff.mp e
  obtain ⟨ys, e3, e4⟩ := Option.bind_eq_some_iff.mp e2
  split at e4
  case isFalse => cases e4
  rename_i hz
  cases e4
  cases b with
  | list es =>
    cases e1
    obtain ⟨p, vs, rfl, hq, ha⟩ := vw_list w
    rw [strsD_da ha e3] at hq
    exact ⟨a, p, ys, rfl, rfl, .inl hq, by omega, q _ _ (same_refl _) (.str _)⟩
  | tuple es =>
    cases e1
    obtain ⟨p, vs, rfl, hq, ha⟩ := vw_tup w
    rw [strsD_da ha e3] at hq
    exact ⟨a, p, ys, rfl, rfl, .inr (seqT (off_sub S H) hq), by omega, q _ _ (same_refl _) (.str _)⟩
  | none => cases e1
  | bool _ => cases e1
  | int _ => cases e1
  | str _ => cases e1
  | dict _ => cases e1
/-! split: a list of one's own -/
def rSplit : V → List V → Hp → VK → Prop := fun x xs H Q => ∃ a b, x = .str a ∧ xs = [.str b] ∧ (b.length == 0) = false ∧ a.length + 2 ≤ sizeLine ∧ rNewStrs (Txt.split a b) H Q
def splitW (fa fb : M R) : M Wv := M.bind fa fun r => M.bind (lift (asS r)) fun a => M.bind fb fun s => M.bind (lift (asS s)) fun b => M.bind (lift (chk (decide (b.length ≠ 0 ∧ a.length ≤ 100000)))) fun _ => M.pure (.own (dats ((Txt.split a b).map .str)))
theorem da_strs {H : Hp} : ∀ ys : List Str, DaAll K H (ys.map V.str) (ys.map PyData.str)
  | [] => .nil
  | _ :: ys => .cons (.str _) (da_strs ys)
theorem OkW.split {ta tb : TE} {fa fb : M R} (oa : OkE K E ta fa) (ob : OkE K E tb fb) : OkW K E (tM1 rSplit ta tb) (splitW fa fb) := by
  refine ⟨?_⟩
  intro B σ H env l rs rp h Q post
  refine oa.seq rp h post.exn fun a e v H1 h1 r1 f1 q1 => ?_
  obtain ⟨x, h2, h3⟩ := lift_step h1
  rw [asS_some h2] at q1
  rw [rpR_str q1]
  refine ⟨⟨x, rfl⟩, ?_⟩
  refine ob.seq r1 h3 (exn_later post.exn f1) fun s e2 y H2 h4 r2 f2 q2 => ?_
  obtain ⟨b, h5, h6⟩ := lift_step h4
  obtain ⟨u, h7, h8⟩ := lift_step h6
  cases h8
  obtain ⟨c1, c2⟩ := of_decide_eq_true (chk_ok h7)
  rw [asS_some h5] at q2
  rw [rpR_str q2]
  refine ⟨x, b, rfl, rfl, by simpa using c1, by rw [sizeLine_eq]; omega, fun p hp => ?_⟩
  obtain ⟨n1, n2⟩ := new_own r2 hp (da_strs (Txt.split x b))
  exact post _ _ [p] n1 ((f1.trans f2).trans (Fr.of (same_new hp _))) n2 (List.nodup_cons.mpr ⟨by simp, List.nodup_nil⟩) (fresh_back r2 (f1.trans f2) hp)
theorem splitW_x {env e1 e2 : En} {fa fb : M R} {a b : Str} (h : fa env = some (.ok (.dat (.str a)) e1)) (h2 : fb e1 = some (.ok (.dat (.str b)) e2)) (h3 : b.length ≠ 0 ∧ a.length ≤ 100000) : splitW fa fb env = some (.ok (.own (dats ((Txt.split a b).map .str))) e2) :=
  bind_go h (bind_go (a := a) (e := e1) rfl (bind_go h2 (bind_go (a := b) (e := e2) rfl (bind_go (a := ()) (e := e2) (by rw [decide_eq_true h3]; rfl) rfl))))
/-! int(text), len(text) -/
def intTD (as : List PyData) : Option PyData := match as with
  | [.str a] => if a.length ≤ 640 then (intText? a).map .int else none
  | _ => none
theorem ok_intT : CbOk K (fun xs H Q => ∃ a n, xs = [.str a] ∧ PySem.intText? a = some n ∧ a.length ≤ 640 ∧ Q (.int n) H) intTD := by
  intro S H xs as d hS w e Q q
  unfold intTD at e
  split at e
  · rename_i a
    split at e
    · rename_i hl
      obtain ⟨n, e1, rfl⟩ := Option.map_eq_some_iff.mp e
      obtain ⟨x, rfl, wx⟩ := vwAll1 w
      rw [vw_str wx]
      exact ⟨a, n, rfl, e1, hl, q _ _ (same_refl _) (.int _)⟩
    · cases e
  · cases e
def lenTD (as : List PyData) : Option PyData := match as with
  | [.str a] => if a.length ≤ 1000000 then some (.int (a.length : Nat)) else none
  | _ => none
theorem ok_lenTx : CbOk K (fun xs H Q => ∃ z, xs = [.str z] ∧ z.length ≤ sizeLine ∧ Q (.int z.length) H) lenTD := by
  intro S H xs as d hS w e Q q
  unfold lenTD at e
  split at e
  · rename_i a
    split at e
    · rename_i hl
      cases e
      obtain ⟨x, rfl, wx⟩ := vwAll1 w
      rw [vw_str wx]
      exact ⟨a, rfl, by rw [sizeLine_eq]; omega, q _ _ (same_refl _) (.int _)⟩
    · cases e
  · cases e
/-! the signs of a text -/
def chsD (a : Str) : List PyData := a.cps.toList.map fun c => .str ⟨#[c]⟩
def strI (fa : M R) : M (List PyData) := M.bind fa fun r => M.bind (lift (asS r)) fun a => M.pure (chsD a)
theorem OkI.str {t : TE} {f : M R} (o : OkE K E t f) : OkI K E (iStr t) (strI f) := by
  refine ⟨?_⟩
  intro B σ H env l rs rp h R post
  refine o.seq rp h post.exn fun a e v H1 h1 r1 f1 q1 => ?_
  obtain ⟨x, h2, h3⟩ := lift_step h1
  cases h3
  rw [asS_some h2] at q1
  rw [rpR_str q1]
  refine ⟨x, rfl, post _ H1 (fun _ => True) _ r1 f1 (by have : (chsD x).length = x.cps.size := by unfold chsD; rw [List.length_map, Array.length_toList]
                                                        rw [this]; exact walk_str) (fun _ _ => trivial) ?_⟩
  rintro i y H2 H3 d S fr ⟨rfl, c, hc, rfl⟩ hd hs _
  have e1 : (chsD x)[i]? = some (.str ⟨#[c]⟩) := by
    unfold chsD
    rw [List.getElem?_map, Array.getElem?_toList, hc]
    rfl
  rw [hd] at e1
  cases e1
  exact ⟨same_refl _, .str _⟩
theorem strI_x {env e : En} {fa : M R} {a : Str} (h : fa env = some (.ok (.dat (.str a)) e)) : strI fa env = some (.ok (chsD a) e) := bind_go h (bind_go (a := a) (e := e) rfl rfl)
def inSgD (a b : PyData) : Option PyData := match a, b with
  | .str x, .str z => match x.cps.toList with
    | [c] => some (.bool (decide (c ∈ z.cps.toList)))
    | _ => none
  | _, _ => none
theorem ok_inSg : OpOk K rInS inSgD := by
  intro S H x y a b d hS wa wb e Q q
  unfold inSgD at e
  split at e
  · rename_i x0 z
    split at e
    · rename_i c hc
      cases e
      rw [vw_str wa, vw_str wb]
      have : x0 = ⟨#[c]⟩ := TL.ext_tl hc
      exact ⟨c, z, by rw [this], rfl, q _ _ (same_refl _) (.bl _)⟩
    · cases e
  · cases e
/-! one sign, a piece of a text -/
def ixTD (a b : PyData) : Option PyData := match a, b with
  | .str z, .int i => if z.length ≤ 1000000 then (atI z.cps.toList i).map fun c => .str ⟨#[c]⟩ else none
  | _, _ => none
theorem ok_ixT : OpOk K rIxS ixTD := by
  intro S H x y a b d hS wa wb e Q q
  unfold ixTD at e
  split at e
  · rename_i z i
    split at e
    · rename_i hl
      obtain ⟨c, e1, rfl⟩ := Option.map_eq_some_iff.mp e
      rw [vw_str wa, vw_int wb]
      exact ⟨z, i, c, rfl, rfl, by rw [sizeLine_eq]; omega, e1, q _ _ (same_refl _) (.str _)⟩
    · cases e
  · cases e
def cutTD (a : PyData) (lo hi : Option Int) : Option PyData := match a with
  | .str z => if z.length ≤ 1000000 then some (.str (Txt.slice z lo hi)) else none
  | _ => none
def slTD (fa : M R) (fl fh : M (Option Int)) : M R := M.bind fa fun a => M.bind fl fun lo => M.bind fh fun hi => M.bind (vw a) fun x => M.bind (lift (cutTD x lo hi)) fun d => M.pure (.dat d)
theorem OkE.slT {t : TE} {tl th : TO} {fa : M R} {fl fh : M (Option Int)} (oa : OkE K E t fa) (ol : OkP K E tl fl) (oh : OkP K E th fh) : OkE K E (tSl C8.rSlX t tl th) (slTD fa fl fh) := by
  refine ⟨?_⟩
  intro B σ H env l rs rp h Q post
  refine oa.seq rp h post.exn fun a e v1 H1 h1 r1 f1 q1 => ?_
  refine ol.seq r1 h1 (exn_later post.exn f1) fun lo e2 H2 h2 r2 f2 => ?_
  refine oh.seq r2 h2 (exn_later post.exn (f1.trans f2)) fun hi e3 H3 h3 r3 f3 => ?_
  obtain ⟨x, h4, w1⟩ := vw_step r3 (q1.mv (f2.trans f3).keep) h3
  obtain ⟨d, h5, h6⟩ := lift_step h4
  cases h6
  unfold cutTD at h5
  split at h5
  · rename_i z
    split at h5
    · rename_i hl
      cases h5
      rw [vw_str w1]
      exact ⟨z, rfl, by rw [sizeLine_eq]; omega, post _ H3 r3 ((f1.trans f2).trans f3) (.str _)⟩
    · cases h5
  · cases h5
theorem slT_x {env e1 e2 e3 : En} {fa : M R} {fl fh : M (Option Int)} {r : R} {lo hi : Option Int} {z : Str} (h1 : fa env = some (.ok r e1)) (h2 : fl e1 = some (.ok lo e2)) (h3 : fh e2 = some (.ok hi e3)) (v : vw r e3 = some (.ok (.str z) e3)) (hl : z.length ≤ 1000000) : slTD fa fl fh env = some (.ok (.dat (.str (Txt.slice z lo hi))) e3) :=
  bind_go h1 (bind_go h2 (bind_go h3 (bind_go v (bind_go (a := .str (Txt.slice z lo hi)) (e := e3) (by show lift (if z.length ≤ 1000000 then _ else none) e3 = _; rw [if_pos hl]; rfl) rfl))))
/-! text + text -/
def catSD (a b : PyData) : Option PyData := match a, b with
  | .str x, .str y => if x.length + y.length ≤ 1000000 then some (.str (x ++ y)) else none
  | _, _ => none
theorem ok_catS : OpOk K (fun x y H Q => ∃ i j, x = .str i ∧ y = .str j ∧ i.length + j.length ≤ sizeLine ∧ Q (.str (i ++ j)) H) catSD := by
  intro S H x y a b d hS wa wb e Q q
  unfold catSD at e
  split at e
  · rename_i i j
    split at e
    · rename_i hl
      cases e
      rw [vw_str wa, vw_str wb]
      exact ⟨i, j, rfl, rfl, by rw [sizeLine_eq]; omega, q _ _ (same_refl _) (.str _)⟩
    · cases e
  · cases e
end
end Ov
set_option Elab.async false
set_option linter.all false
set_option maxRecDepth 100000
set_option maxHeartbeats 4000000
namespace L2
open PySem PySem.Spec PyProof.Rows
def sgnsV (x : Str) : List V := x.cps.toList.map fun c => V.str ⟨#[c]⟩
def rListT : List V → Hp → VK → Prop := fun xs H Q => ∃ x : Str, xs = [.str x] ∧ x.length ≤ sizeLine ∧ ∀ q, H q = none → Q (.ref q) (upd H q (.lst (sgnsV x)))
theorem cr_listT {X : Cx} (hc : X.calm = true) : CallR X (.type "list") rListT := by
  intro pins s σ H xs us Q I r h
  obtain ⟨x, e, hz, q⟩ := h
  subst e
  obtain ⟨u, eu, rx⟩ := vals1 r
  subst eu
  obtain ⟨t, rfl⟩ := rx
  have sz : x.cps.size ≤ sizeLine := hz
  refine PySem.call_list_str (I.ok.hd hc) x t (hn := sz) fun h' tk acc' c' hkeep hS hacc => ?_
  have ln : (sgnsV x).length = x.cps.size := by unfold sgnsV; rw [List.length_map, Array.length_toList]
  refine ⟨.ref s.heap.objs.size, upd H s.heap.objs.size (.lst (sgnsV x)), I.laid hkeep (Nat.le_refl _) (show ObjOk X.prog X.w _ _ _ (.lst (sgnsV x)) from ⟨by rw [ln]; exact sz, acc'.toList, c', ?_, ?_⟩), rfl, q _ (I.hok.fresh (Nat.le_refl _))⟩
  · refine vals_of_at (by rw [ln, Array.length_toList, hacc.1]) fun j y w h1 h2 => ?_
    obtain ⟨c, k, hc2, rfl⟩ := hacc.2 j w (by rw [← Array.getElem?_toList]; exact h2)
    unfold sgnsV at h1
    rw [List.getElem?_map, Array.getElem?_toList, hc2] at h1
    cases h1
    exact ⟨k, rfl⟩
  · simpa using hS
end L2
namespace Ov
open PySem PySem.Spec L2
section
variable {K : PySem.W.Frag} {E : XK}
/-- list(text) -/
def listTD (as : List PyData) : Option PyData := match as with
  | [.str a] => if a.length ≤ 100000 then some (.list (chsD a)) else none
  | _ => none
theorem da_sgns {H : Hp} : ∀ l : List Nat, DaAll K H (l.map fun c => V.str ⟨#[c]⟩) (l.map fun c => PyData.str ⟨#[c]⟩)
  | [] => .nil
  | _ :: l => .cons (.str _) (da_sgns l)
theorem ok_listT : CbOk K rListT listTD := by
  intro S H xs as d hS w e Q q
  unfold listTD at e
  split at e
  · rename_i a
    split at e
    · rename_i hl
      cases e
      obtain ⟨x, rfl, wx⟩ := vwAll1 w
      rw [vw_str wx]
      refine ⟨a, rfl, by rw [sizeLine_eq]; omega, fun p hp => ?_⟩
      refine q _ _ (same_new hp _) (.lst (SqL.of ((off_ne fun y => ?_).trans upd_same)) (da_sgns a.cps.toList))
      obtain ⟨o, e, _⟩ := hS p y
      rw [hp] at e
      cases e
    · cases e
  · cases e
theorem k_joinT {X : Cx} (hK : X.K = K) {o e : Expr} {to te : TE} {apos pos : Pos} (ho : PE X o to) (he : PE X e te) (hs : starEach [e] X.env = [(false, eval e X.env)] := by rfl) (hbase : attributeBase o "join" X.env (eval o X.env) = eval o X.env := by rfl) (hline : (apos.endLine == pos.line) = true := by rfl) :
    PE X (.Call (.Attribute o "join" apos) [e] [] pos) (tM1 (rJoin K) to te) := by
  subst hK
  exact pe_join ho he hs hbase hline
end
end Ov
set_option Elab.async false
set_option linter.all false
set_option maxRecDepth 100000
set_option maxHeartbeats 4000000
namespace Ov
open PySem L2
def top (i : Nat) : Stmt := PySem.Challenge.pw_overlooks_k12_texts.main.body.getD i (.Pass ⟨0, 0, 0, 0⟩)
abbrev S_is_number : Stmt := top 4
abbrev N_is_number : List Str := ["value"]
abbrev P_is_number : List Str := ["value"]
theorem sc_is_number : FnScope N_is_number P_is_number (defScope S_is_number) := ⟨rfl, rfl, rfl, by decide +kernel, rfl, by decide +kernel, by decide +kernel⟩
abbrev S_is_row : Stmt := top 5
abbrev N_is_row : List Str := ["thing", "height"]
abbrev P_is_row : List Str := ["thing"]
theorem sc_is_row : FnScope N_is_row P_is_row (defScope S_is_row) := ⟨rfl, rfl, rfl, by decide +kernel, rfl, by decide +kernel, by decide +kernel⟩
abbrev S_row_text : Stmt := top 9
abbrev N_row_text : List Str := ["row", "height"]
abbrev P_row_text : List Str := ["row"]
theorem sc_row_text : FnScope N_row_text P_row_text (defScope S_row_text) := ⟨rfl, rfl, rfl, by decide +kernel, rfl, by decide +kernel, by decide +kernel⟩
abbrev S_pairs_text : Stmt := top 10
abbrev N_pairs_text : List Str := ["pairs", "left", "right"]
abbrev P_pairs_text : List Str := ["pairs"]
theorem sc_pairs_text : FnScope N_pairs_text P_pairs_text (defScope S_pairs_text) := ⟨rfl, rfl, rfl, by decide +kernel, rfl, by decide +kernel, by decide +kernel⟩
abbrev S_row_in : Stmt := top 11
abbrev N_row_in : List Str := ["text", "words", "word", "row"]
abbrev P_row_in : List Str := ["text"]
theorem sc_row_in : FnScope N_row_in P_row_in (defScope S_row_in) := ⟨rfl, rfl, rfl, by decide +kernel, rfl, by decide +kernel, by decide +kernel⟩
abbrev S_pairs_in : Stmt := top 12
abbrev N_pairs_in : List Str := ["text", "parts", "word", "part", "left", "right"]
abbrev P_pairs_in : List Str := ["text"]
theorem sc_pairs_in : FnScope N_pairs_in P_pairs_in (defScope S_pairs_in) := ⟨rfl, rfl, rfl, by decide +kernel, rfl, by decide +kernel, by decide +kernel⟩
abbrev S_joined : Stmt := top 13
abbrev N_joined : List Str := ["words"]
abbrev P_joined : List Str := ["words"]
theorem sc_joined : FnScope N_joined P_joined (defScope S_joined) := ⟨rfl, rfl, rfl, by decide +kernel, rfl, by decide +kernel, by decide +kernel⟩
abbrev S_words_in : Stmt := top 14
abbrev N_words_in : List Str := ["text"]
abbrev P_words_in : List Str := ["text"]
theorem sc_words_in : FnScope N_words_in P_words_in (defScope S_words_in) := ⟨rfl, rfl, rfl, by decide +kernel, rfl, by decide +kernel, by decide +kernel⟩
abbrev S_is_written_number : Stmt := top 15
abbrev N_is_written_number : List Str := ["word"]
abbrev P_is_written_number : List Str := ["word"]
theorem sc_is_written_number : FnScope N_is_written_number P_is_written_number (defScope S_is_written_number) := ⟨rfl, rfl, rfl, by decide +kernel, rfl, by decide +kernel, by decide +kernel⟩
abbrev S_is_written_pair : Stmt := top 16
abbrev N_is_written_pair : List Str := ["part", "word"]
abbrev P_is_written_pair : List Str := ["part"]
theorem sc_is_written_pair : FnScope N_is_written_pair P_is_written_pair (defScope S_is_written_pair) := ⟨rfl, rfl, rfl, by decide +kernel, rfl, by decide +kernel, by decide +kernel⟩
abbrev S_cell_at : Stmt := top 18
abbrev N_cell_at : List Str := ["_law_script", "_law_k"]
abbrev P_cell_at : List Str := ["_law_script", "_law_k"]
theorem sc_cell_at : FnScope N_cell_at P_cell_at (defScope S_cell_at) := ⟨rfl, rfl, rfl, by decide +kernel, rfl, by decide +kernel, by decide +kernel⟩
abbrev S_box : Stmt := top 19
abbrev N_box : List Str := ["_law_script", "_law_k", "_law_core"]
abbrev P_box : List Str := ["_law_script", "_law_k"]
theorem sc_box : FnScope N_box P_box (defScope S_box) := ⟨rfl, rfl, rfl, by decide +kernel, rfl, by decide +kernel, by decide +kernel⟩
abbrev S_take : Stmt := top 20
abbrev N_take : List Str := ["_law_box_here", "_law_below", "_law_found", "_law_once", "_law_twice"]
abbrev P_take : List Str := ["_law_box_here", "_law_below"]
theorem sc_take : FnScope N_take P_take (defScope S_take) := ⟨rfl, rfl, rfl, by decide +kernel, rfl, by decide +kernel, by decide +kernel⟩
abbrev S_of : Stmt := top 21
abbrev N_of : List Str := ["_law_box_here", "_law_some"]
abbrev P_of : List Str := ["_law_box_here", "_law_some"]
theorem sc_of : FnScope N_of P_of (defScope S_of) := ⟨rfl, rfl, rfl, by decide +kernel, rfl, by decide +kernel, by decide +kernel⟩
abbrev S_same : Stmt := top 22
abbrev N_same : List Str := ["_law_found", "_law_due_here", "_law_a", "_law_b"]
abbrev P_same : List Str := ["_law_found", "_law_due_here"]
theorem sc_same : FnScope N_same P_same (defScope S_same) := ⟨rfl, rfl, rfl, by decide +kernel, rfl, by decide +kernel, by decide +kernel⟩
abbrev S_strewn : Stmt := top 23
abbrev N_strewn : List Str := ["_law_box_here", "_law_some", "_law_left", "_law_found"]
abbrev P_strewn : List Str := ["_law_box_here", "_law_some"]
theorem sc_strewn : FnScope N_strewn P_strewn (defScope S_strewn) := ⟨rfl, rfl, rfl, by decide +kernel, rfl, by decide +kernel, by decide +kernel⟩
abbrev S_lists : Stmt := top 24
abbrev N_lists : List Str := ["_law_part", "_law_piece"]
abbrev P_lists : List Str := ["_law_part"]
theorem sc_lists : FnScope N_lists P_lists (defScope S_lists) := ⟨rfl, rfl, rfl, by decide +kernel, rfl, by decide +kernel, by decide +kernel⟩
abbrev S_souls : Stmt := top 25
abbrev N_souls : List Str := ["_law_box_here", "_law_count", "_law_found", "_law_top", "_law_k", "_law_soul"]
abbrev P_souls : List Str := ["_law_box_here", "_law_count"]
theorem sc_souls : FnScope N_souls P_souls (defScope S_souls) := ⟨rfl, rfl, rfl, by decide +kernel, rfl, by decide +kernel, by decide +kernel⟩
abbrev S_crowd : Stmt := top 26
abbrev N_crowd : List Str := ["_law_box_here", "_law_most", "_law_souls_here", "_law_found", "_law_soul"]
abbrev P_crowd : List Str := ["_law_box_here", "_law_most"]
theorem sc_crowd : FnScope N_crowd P_crowd (defScope S_crowd) := ⟨rfl, rfl, rfl, by decide +kernel, rfl, by decide +kernel, by decide +kernel⟩
abbrev S_digits : Stmt := top 27
abbrev N_digits : List Str := ["_law_word", "_law_sign"]
abbrev P_digits : List Str := ["_law_word"]
theorem sc_digits : FnScope N_digits P_digits (defScope S_digits) := ⟨rfl, rfl, rfl, by decide +kernel, rfl, by decide +kernel, by decide +kernel⟩
abbrev S_figures : Stmt := top 28
abbrev N_figures : List Str := ["_law_words", "_law_found", "_law_word"]
abbrev P_figures : List Str := ["_law_words"]
theorem sc_figures : FnScope N_figures P_figures (defScope S_figures) := ⟨rfl, rfl, rfl, by decide +kernel, rfl, by decide +kernel, by decide +kernel⟩
abbrev S_sum_text : Stmt := top 29
abbrev N_sum_text : List Str := ["_law_some", "_law_part"]
abbrev P_sum_text : List Str := ["_law_some"]
theorem sc_sum_text : FnScope N_sum_text P_sum_text (defScope S_sum_text) := ⟨rfl, rfl, rfl, by decide +kernel, rfl, by decide +kernel, by decide +kernel⟩
abbrev S_tour_text : Stmt := top 30
abbrev N_tour_text : List Str := ["_law_tour", "_law_i", "_law_j"]
abbrev P_tour_text : List Str := ["_law_tour"]
theorem sc_tour_text : FnScope N_tour_text P_tour_text (defScope S_tour_text) := ⟨rfl, rfl, rfl, by decide +kernel, rfl, by decide +kernel, by decide +kernel⟩
abbrev S_crowd_in : Stmt := top 31
abbrev N_crowd_in : List Str := ["_law_words", "_law_found"]
abbrev P_crowd_in : List Str := ["_law_words"]
theorem sc_crowd_in : FnScope N_crowd_in P_crowd_in (defScope S_crowd_in) := ⟨rfl, rfl, rfl, by decide +kernel, rfl, by decide +kernel, by decide +kernel⟩
abbrev S_tour_in : Stmt := top 32
abbrev N_tour_in : List Str := ["_law_words", "_law_found", "_law_word", "_law_parts", "_law_part"]
abbrev P_tour_in : List Str := ["_law_words"]
theorem sc_tour_in : FnScope N_tour_in P_tour_in (defScope S_tour_in) := ⟨rfl, rfl, rfl, by decide +kernel, rfl, by decide +kernel, by decide +kernel⟩
abbrev S_bent_text : Stmt := top 33
abbrev N_bent_text : List Str := ["_law_box_here", "_law_words", "_law_at", "_law_way", "_law_swap", "_law_sign"]
abbrev P_bent_text : List Str := ["_law_box_here", "_law_words"]
theorem sc_bent_text : FnScope N_bent_text P_bent_text (defScope S_bent_text) := ⟨rfl, rfl, rfl, by decide +kernel, rfl, by decide +kernel, by decide +kernel⟩
abbrev S_told : Stmt := top 34
abbrev N_told : List Str := ["_law_which", "_law_words", "_law_found", "_law_caught", "error", "_law_fine"]
abbrev P_told : List Str := ["_law_which", "_law_words"]
theorem sc_told : FnScope N_told P_told (defScope S_told) := ⟨rfl, rfl, rfl, by decide +kernel, rfl, by decide +kernel, by decide +kernel⟩
abbrev S_due : Stmt := top 35
abbrev N_due : List Str := ["_law_which", "_law_words", "_law_found"]
abbrev P_due : List Str := ["_law_which", "_law_words"]
theorem sc_due : FnScope N_due P_due (defScope S_due) := ⟨rfl, rfl, rfl, by decide +kernel, rfl, by decide +kernel, by decide +kernel⟩
abbrev S_right : Stmt := top 36
abbrev N_right : List Str := ["_law_box_here", "_law_crowd_here", "_law_tour", "_law_turn", "_law_said", "_law_told_here", "_law_fixed", "_law_many_so", "_law_k", "_law_which", "_law_tries", "_law_bent", "_law_words", "_law_found"]
abbrev P_right : List Str := ["_law_box_here"]
theorem sc_right : FnScope N_right P_right (defScope S_right) := ⟨rfl, rfl, rfl, by decide +kernel, rfl, by decide +kernel, by decide +kernel⟩
abbrev S_law : Stmt := top 37
abbrev N_law : List Str := ["_law_script", "_law_k", "_law_box_here", "_law_turn"]
abbrev P_law : List Str := ["_law_script"]
theorem sc_law : FnScope N_law P_law (defScope S_law) := ⟨rfl, rfl, rfl, by decide +kernel, rfl, by decide +kernel, by decide +kernel⟩
abbrev S_BadText : Stmt := inClass (top 1) 0
abbrev P_BadText : List Str := ["self", "text"]
theorem sc_BadText : FnScope P_BadText P_BadText (defScope S_BadText) := ⟨rfl, rfl, rfl, by decide +kernel, rfl, by decide +kernel, by decide +kernel⟩
abbrev S_BadLine : Stmt := inClass (top 2) 0
abbrev P_BadLine : List Str := ["self", "number"]
theorem sc_BadLine : FnScope P_BadLine P_BadLine (defScope S_BadLine) := ⟨rfl, rfl, rfl, by decide +kernel, rfl, by decide +kernel, by decide +kernel⟩
structure Ad where
  BadText : Addr
  BadLine : Addr
structure Mks (P : Program) (w : World) (K : PySem.W.Frag) (mg : Str → Option Value) (base : Heap) (c : Ad) : Prop where
  BadText : MkE P w K mg base c.BadText 0 "BadText" "text" (spIni K c.BadText (tl 0) (nw 0) "text")
  BadLine : MkE P w K mg base c.BadLine 0 "BadLine" "number" (spIni K c.BadLine (tl 0) (nw 0) "number")
def Nd (c : Ad) : Prop := [c.BadText, c.BadLine].Nodup
section
variable {P : Program} {w : World} {K : PySem.W.Frag} {mg : Str → Option Value} {base : Heap} {f : Addr} {fd : FuncData} {C : Addr}
theorem iniBadText (F : Fun K "__init__" "BadText.__init__" S_BadText f fd) : FnOk P w K mg base CX0 1 f fd P_BadText (spIni K C tlValueError "ValueError.__new__" "text") := by
  refine F.ok sc_BadText (fun vs H Q E h => ?_) (fun cdv A outer s H vs Q E hr h => ?_)
  · obtain ⟨a, v, rfl, _⟩ := h
    rfl
  obtain ⟨a, v, rfl, T, hn, ha, q⟩ := h
  exact ⟨_, pss_one (ps_st1 (newId := "ValueError.__new__") PySem.F.store_ValueError (pv 0) (pv 1)), _, rfl, _, rfl, a, C, rfl, T, hn, ha, q⟩
theorem iniBadLine (F : Fun K "__init__" "BadLine.__init__" S_BadLine f fd) : FnOk P w K mg base CX0 1 f fd P_BadLine (spIni K C tlValueError "ValueError.__new__" "number") := by
  refine F.ok sc_BadLine (fun vs H Q E h => ?_) (fun cdv A outer s H vs Q E hr h => ?_)
  · obtain ⟨a, v, rfl, _⟩ := h
    rfl
  obtain ⟨a, v, rfl, T, hn, ha, q⟩ := h
  exact ⟨_, pss_one (ps_st1 (newId := "ValueError.__new__") PySem.F.store_ValueError (pv 0) (pv 1)), _, rfl, _, rfl, a, C, rfl, T, hn, ha, q⟩
end
def s_cell_at_0 : M Fl :=
    (ifS (tb1 (op2 ltD (get 1) (cb lenD (acons (get 0) anil)))) (retS (pl (op2 ixD (get 0) (get 1)))) nxt)
def s_cell_at_1 : M Fl :=
    (retS (pl (con (.int 0))))
def f_cell_at : M Fl :=
    (thenS s_cell_at_0 s_cell_at_1)
def F_cell_at : List PyData → Option Wv := runA 2 2 f_cell_at
section
variable {P : Program} {w : World} {K : PySem.W.Frag} {mg : Str → Option Value} {base : Heap} {f : Addr} {fd : FuncData}
theorem dk_cell_at (F : Fun K "_law_cell_at" "_law_cell_at" S_cell_at f fd)  (B : Blt mg) : FnOk P w K mg base CX0 1 f fd P_cell_at (spA K F_cell_at) := by
  refine F.ok sc_cell_at (fun vs H Q E h => lenA h) (fun cdv A outer s H vs Q E hr h => ⟨_, (Evl.pss_cut (ps_if (pt_cmpR op_lt (pv 1) (pe_callB (k_len (K := K) rfl) rfl B.len PySem.boot_len (pa_cons (pv 0) pa_nil)) (nomark _)) (pss_one (ps_ret (pe_ix (k_ix (K := K) rfl) (pv 0) (pv 1) (fun _ _ => rfl)))) pss_nil)
      (pss_one (ps_ret pe_int))), ?_⟩)
  exact finA (N := N_cell_at) (by unfold f_cell_at s_cell_at_1 s_cell_at_0; exact (OkS.cut (OkS.ife (OkT.test (OkE.op ok_lt (OkE.var 1) (OkE.cb ok_len (OkA.cons (OkE.var 0) OkA.nil)))) (OkS.ret (OkE.w (OkE.op ok_ix (OkE.var 0) (OkE.var 1)))) OkS.nil)
      (OkS.ret (OkE.w (OkE.con fun _ => .int _))))) h
end
def s_box_0 : M Fl :=
    (setS 2 (pl (fz (callA F_cell_at (acons (get 0) (acons (get 1) anil))))))
def s_box_1 : M Fl :=
    (retS (lstW (acons (op2 mulD (cb absD (acons (get 2) anil)) (cb intD (acons (op2 geD (cb absD (acons (get 2) anil)) (op2 powD (con (.int 10)) (con (.int 18)))) anil))) (acons (op2 addD (op2 addD (op2 modD (get 2) (con (.int 2305843009213693951))) (op2 mulD (con (.int 39373)) (get 1))) (con (.int 29))) (acons (con (.int 0)) anil)))))
def f_box : M Fl :=
    (thenS s_box_0 s_box_1)
def F_box : List PyData → Option Wv := runA 2 3 f_box
section
variable {P : Program} {w : World} {K : PySem.W.Frag} {mg : Str → Option Value} {base : Heap} {f : Addr} {fd : FuncData}
theorem dk_box (F : Fun K "_law_box" "_law_box" S_box f fd) {g_cell_at : Addr} {d_cell_at : FuncData} (G_cell_at : FnOk P w K mg base CX0 1 g_cell_at d_cell_at P_cell_at (spA K F_cell_at)) (b_cell_at : Binds K d_cell_at P_cell_at []) (k_cell_at : PySem.W.keepIn K (.ref g_cell_at) = true) (m_cell_at : mg "_law_cell_at" = some (.ref g_cell_at)) (B : Blt mg) : FnOk P w K mg base CX0 2 f fd P_box (spA K F_box) := by
  refine F.ok sc_box (fun vs H Q E h => lenA h) (fun cdv A outer s H vs Q E hr h => ⟨_, (Evl.pss_cut (ps_set (i := 2) sc_box.nd rfl (by first | exact Or.inl rfl | exact Or.inr rfl) (pe_call G_cell_at (hr.mono (by decide)) rfl m_cell_at k_cell_at b_cell_at .nil pass0 (pa_cons (pv 0) (pa_cons (pv 1) pa_nil))))
      (pss_one (ps_ret (pe_lst (pa_cons (pe_op op_mul (pe_callB call_abs rfl B.abs (by decide +kernel) (pa_cons (pv 2) pa_nil)) (pe_callTy call_int1 rfl B.int (by decide +kernel) (pa_cons (pe_cmpR op_ge (pe_callB call_abs rfl B.abs (by decide +kernel) (pa_cons (pv 2) pa_nil)) (pe_op op_pow pe_int pe_int) (nomark _)) pa_nil))) (pa_cons (pe_op op_add (pe_op op_add (pe_op op_mod (pv 2) pe_int) (pe_op op_mul pe_int (pv 1))) pe_int) (pa_cons pe_int pa_nil))))))), ?_⟩)
  exact finA (N := N_box) (by unfold f_box s_box_1 s_box_0; exact (OkS.cut (OkS.set (fun z => z.elim0) (OkE.w (OkW.e (OkW.call (OkA.cons (OkE.var 0) (OkA.cons (OkE.var 1) OkA.nil))))))
      (OkS.ret (OkW.lst (OkA.cons (OkE.op ok_mul (OkE.cb ok_abs (OkA.cons (OkE.var 2) OkA.nil)) (OkE.cb ok_int (OkA.cons (OkE.op ok_ge (OkE.cb ok_abs (OkA.cons (OkE.var 2) OkA.nil)) (OkE.op ok_pow (OkE.con fun _ => .int _) (OkE.con fun _ => .int _))) OkA.nil))) (OkA.cons (OkE.op ok_add (OkE.op ok_add (OkE.op ok_mod (OkE.var 2) (OkE.con fun _ => .int _)) (OkE.op ok_mul (OkE.con fun _ => .int _) (OkE.var 1))) (OkE.con fun _ => .int _)) (OkA.cons (OkE.con fun _ => .int _) OkA.nil))))))) h
end
def f_take (rec : List PyData → List PyData → Option (Wv × List PyData)) : M Fl :=
    (thenS (ifS (tb1 (op2 gtD (op2 ixD (get 0) (con (.int 0))) (con (.int 0)))) (thenS (setS 2 (pl (op2 modD (op2 ixD (get 0) (con (.int 0))) (get 1))))
    (thenS (setIx 0 (op2 divD (op2 ixD (get 0) (con (.int 0))) (get 1)) (con (.int 0)))
    (retS (pl (get 2))))) nxt)
    (thenS (ifS (tb1 (op2 gtD (get 1) (op2 powD (con (.int 10)) (con (.int 7))))) (retS (pl (op2 modD (op2 addD (fz (callB 0 rec (acons (op2 powD (con (.int 10)) (con (.int 7))) anil))) (op2 mulD (op2 powD (con (.int 10)) (con (.int 7))) (fz (callB 0 rec (acons (op2 addD (op2 divD (get 1) (op2 powD (con (.int 10)) (con (.int 7)))) (con (.int 1))) anil))))) (get 1)))) nxt)
    (thenS (setIx 0 (op2 addD (op2 ixD (get 0) (con (.int 2))) (con (.int 1))) (con (.int 2)))
    (thenS (setS 3 (pl (op2 modD (op2 mulD (op2 addD (op2 ixD (get 0) (con (.int 1))) (op2 mulD (con (.int 48271)) (op2 ixD (get 0) (con (.int 2))))) (op2 addD (con (.int 39373)) (op2 ixD (get 0) (con (.int 2))))) (con (.int 2147483647)))))
    (thenS (setS 4 (pl (op2 modD (op2 mulD (op2 addD (op2 addD (get 3) (op2 ixD (get 0) (con (.int 2)))) (op2 divD (op2 ixD (get 0) (con (.int 1))) (con (.int 1000003)))) (op2 addD (op2 modD (get 3) (con (.int 40009))) (con (.int 7)))) (con (.int 2147483629)))))
    (retS (pl (op2 modD (op2 divD (op2 modD (op2 addD (op2 mulD (get 4) (con (.int 48271))) (get 3)) (con (.int 2147483587))) (con (.int 64))) (get 1)))))))))
def F_take : Nat → List PyData → List PyData → Option (Wv × List PyData)
  | 0 => fun _ _ => none
  | n + 1 => runB 2 5 (f_take (F_take n))
section
variable {P : Program} {w : World} {K : PySem.W.Frag} {mg : Str → Option Value} {base : Heap} {f : Addr} {fd : FuncData}
theorem dk_take (F : Fun K "_law_take" "_law_take" S_take f fd)  (b : Binds K fd P_take []) (m : mg "_law_take" = some (.ref f)) (B : Blt mg) : ∀ n, FnOk P w K mg base CX0 (0 + n) f fd P_take (spB K (F_take n))
  | 0 => ⟨fun vs H Q E h => (vacB h).elim, fun A outer s H args us vs Q E hr he hb hv h => (vacB h).elim⟩
  | n + 1 => by
    have G := dk_take F  b m B n
    refine F.ok sc_take (fun vs H Q E h => lenB h) (fun cdv A outer s H vs Q E hr h => ⟨_, (Evl.pss_cut (ps_if (pt_cmpR op_gt (pe_ix (k_ix (K := K) rfl) (pv 0) pe_int (fun _ _ => rfl)) pe_int (nomark _)) (Evl.pss_cut (ps_set (i := 2) sc_take.nd rfl (by first | exact Or.inl rfl | exact Or.inr rfl) (pe_op op_mod (pe_ix (k_ix (K := K) rfl) (pv 0) pe_int (fun _ _ => rfl)) (pv 1)))
      (Evl.pss_cut (ps_asg (pe_op op_fdiv (pe_ix (k_ix (K := K) rfl) (pv 0) pe_int (fun _ _ => rfl)) (pv 1)) (pg_sub (pv 0) pe_int set_list))
      (pss_one (ps_ret (pv 2))))) pss_nil)
      (Evl.pss_cut (ps_if (pt_cmpR op_gt (pv 1) (pe_op op_pow pe_int pe_int) (nomark _)) (pss_one (ps_ret (pe_op op_mod (pe_op op_add (pe_call G hr rfl m F.kp b .nil pass0 (pa_cons (pv 0) (pa_cons (pe_op op_pow pe_int pe_int) pa_nil))) (pe_op op_mul (pe_op op_pow pe_int pe_int) (pe_call G hr rfl m F.kp b .nil pass0 (pa_cons (pv 0) (pa_cons (pe_op op_add (pe_op op_fdiv (pv 1) (pe_op op_pow pe_int pe_int)) pe_int) pa_nil))))) (pv 1)))) pss_nil)
      (Evl.pss_cut (ps_asg (pe_op op_add (pe_ix (k_ix (K := K) rfl) (pv 0) pe_int (fun _ _ => rfl)) pe_int) (pg_sub (pv 0) pe_int set_list))
      (Evl.pss_cut (ps_set (i := 3) sc_take.nd rfl (by first | exact Or.inl rfl | exact Or.inr rfl) (pe_op op_mod (pe_op op_mul (pe_op op_add (pe_ix (k_ix (K := K) rfl) (pv 0) pe_int (fun _ _ => rfl)) (pe_op op_mul pe_int (pe_ix (k_ix (K := K) rfl) (pv 0) pe_int (fun _ _ => rfl)))) (pe_op op_add pe_int (pe_ix (k_ix (K := K) rfl) (pv 0) pe_int (fun _ _ => rfl)))) pe_int))
      (Evl.pss_cut (ps_set (i := 4) sc_take.nd rfl (by first | exact Or.inl rfl | exact Or.inr rfl) (pe_op op_mod (pe_op op_mul (pe_op op_add (pe_op op_add (pv 3) (pe_ix (k_ix (K := K) rfl) (pv 0) pe_int (fun _ _ => rfl))) (pe_op op_fdiv (pe_ix (k_ix (K := K) rfl) (pv 0) pe_int (fun _ _ => rfl)) pe_int)) (pe_op op_add (pe_op op_mod (pv 3) pe_int) pe_int)) pe_int))
      (pss_one (ps_ret (pe_op op_mod (pe_op op_fdiv (pe_op op_mod (pe_op op_add (pe_op op_mul (pv 4) pe_int) (pv 3)) pe_int) pe_int) (pv 1))))))))), ?_⟩)
    exact finB (N := N_take) (by unfold f_take; exact (OkS.cut (OkS.ife (OkT.test (OkE.op ok_gt (OkE.op ok_ix (OkE.var 0) (OkE.con fun _ => .int _)) (OkE.con fun _ => .int _))) (OkS.cut (OkS.set (by decide) (OkE.w (OkE.op ok_mod (OkE.op ok_ix (OkE.var 0) (OkE.con fun _ => .int _)) (OkE.var 1))))
      (OkS.cut (OkS.setIx (OkE.op ok_div (OkE.op ok_ix (OkE.var 0) (OkE.con fun _ => .int _)) (OkE.var 1)) (OkE.con fun _ => .int _))
      (OkS.ret (OkE.w (OkE.var 2))))) OkS.nil)
      (OkS.cut (OkS.ife (OkT.test (OkE.op ok_gt (OkE.var 1) (OkE.op ok_pow (OkE.con fun _ => .int _) (OkE.con fun _ => .int _)))) (OkS.ret (OkE.w (OkE.op ok_mod (OkE.op ok_add (OkW.e (OkW.callB (OkA.cons (OkE.op ok_pow (OkE.con fun _ => .int _) (OkE.con fun _ => .int _)) OkA.nil))) (OkE.op ok_mul (OkE.op ok_pow (OkE.con fun _ => .int _) (OkE.con fun _ => .int _)) (OkW.e (OkW.callB (OkA.cons (OkE.op ok_add (OkE.op ok_div (OkE.var 1) (OkE.op ok_pow (OkE.con fun _ => .int _) (OkE.con fun _ => .int _))) (OkE.con fun _ => .int _)) OkA.nil))))) (OkE.var 1)))) OkS.nil)
      (OkS.cut (OkS.setIx (OkE.op ok_add (OkE.op ok_ix (OkE.var 0) (OkE.con fun _ => .int _)) (OkE.con fun _ => .int _)) (OkE.con fun _ => .int _))
      (OkS.cut (OkS.set (by decide) (OkE.w (OkE.op ok_mod (OkE.op ok_mul (OkE.op ok_add (OkE.op ok_ix (OkE.var 0) (OkE.con fun _ => .int _)) (OkE.op ok_mul (OkE.con fun _ => .int _) (OkE.op ok_ix (OkE.var 0) (OkE.con fun _ => .int _)))) (OkE.op ok_add (OkE.con fun _ => .int _) (OkE.op ok_ix (OkE.var 0) (OkE.con fun _ => .int _)))) (OkE.con fun _ => .int _))))
      (OkS.cut (OkS.set (by decide) (OkE.w (OkE.op ok_mod (OkE.op ok_mul (OkE.op ok_add (OkE.op ok_add (OkE.var 3) (OkE.op ok_ix (OkE.var 0) (OkE.con fun _ => .int _))) (OkE.op ok_div (OkE.op ok_ix (OkE.var 0) (OkE.con fun _ => .int _)) (OkE.con fun _ => .int _))) (OkE.op ok_add (OkE.op ok_mod (OkE.var 3) (OkE.con fun _ => .int _)) (OkE.con fun _ => .int _))) (OkE.con fun _ => .int _))))
      (OkS.ret (OkE.w (OkE.op ok_mod (OkE.op ok_div (OkE.op ok_mod (OkE.op ok_add (OkE.op ok_mul (OkE.var 4) (OkE.con fun _ => .int _)) (OkE.var 3)) (OkE.con fun _ => .int _)) (OkE.con fun _ => .int _)) (OkE.var 1)))))))))) h
end
def f_of : M Fl :=
    (retS (pl (op2 ixD (get 1) (fz (callB 0 (F_take 2) (acons (cb lenD (acons (get 1) anil)) anil))))))
def F_of : List PyData → List PyData → Option (Wv × List PyData) := runB 2 2 f_of
section
variable {P : Program} {w : World} {K : PySem.W.Frag} {mg : Str → Option Value} {base : Heap} {f : Addr} {fd : FuncData}
theorem dk_of (F : Fun K "_law_of" "_law_of" S_of f fd) {g_take : Addr} {d_take : FuncData} (G_take : FnOk P w K mg base CX0 2 g_take d_take P_take (spB K (F_take 2))) (b_take : Binds K d_take P_take []) (k_take : PySem.W.keepIn K (.ref g_take) = true) (m_take : mg "_law_take" = some (.ref g_take)) (B : Blt mg) : FnOk P w K mg base CX0 3 f fd P_of (spB K F_of) := by
  refine F.ok sc_of (fun vs H Q E h => lenB h) (fun cdv A outer s H vs Q E hr h => ⟨_, (pss_one (ps_ret (pe_ix (k_ix (K := K) rfl) (pv 1) (pe_call G_take (hr.mono (by decide)) rfl m_take k_take b_take .nil pass0 (pa_cons (pv 0) (pa_cons (pe_callB (k_len (K := K) rfl) rfl B.len PySem.boot_len (pa_cons (pv 1) pa_nil)) pa_nil))) (fun _ _ => rfl)))), ?_⟩)
  exact finB (N := N_of) (by unfold f_of; exact (OkS.ret (OkE.w (OkE.op ok_ix (OkE.var 1) (OkW.e (OkW.callB (OkA.cons (OkE.cb ok_len (OkA.cons (OkE.var 1) OkA.nil)) OkA.nil))))))) h
end
def s_strewn_0 : M Fl :=
    (parS 2 3 (listW (acons (get 1) anil)) (lstW anil))
def s_strewn_1 : M Fl :=
    (whileM (tb1 (op2 (eqvD true) (get 2) (lstD anil))) (exprS (mthE 3 appD (acons (mthE 2 popD (acons (fz (callB 0 (F_take 2) (acons (cb lenD (acons (get 2) anil)) anil))) anil)) anil))) 100)
def s_strewn_2 : M Fl :=
    (moveS 3)
def f_strewn : M Fl :=
    (thenS s_strewn_0 (thenS s_strewn_1 s_strewn_2))
def F_strewn : List PyData → List PyData → Option (Wv × List PyData) := runB 2 4 f_strewn
section
variable {P : Program} {w : World} {K : PySem.W.Frag} {mg : Str → Option Value} {base : Heap} {f : Addr} {fd : FuncData}
theorem dk_strewn (F : Fun K "_law_strewn" "_law_strewn" S_strewn f fd) {g_take : Addr} {d_take : FuncData} (G_take : FnOk P w K mg base CX0 2 g_take d_take P_take (spB K (F_take 2))) (b_take : Binds K d_take P_take []) (k_take : PySem.W.keepIn K (.ref g_take) = true) (m_take : mg "_law_take" = some (.ref g_take)) (B : Blt mg) : FnOk P w K mg base CX0 3 f fd P_strewn (spB K F_strewn) := by
  refine F.ok sc_strewn (fun vs H Q E h => lenB h) (fun cdv A outer s H vs Q E hr h => ⟨_, (Evl.pss_cut (ps_par (i := 2) (j := 3) rfl sc_strewn.nd rfl rfl (by decide) rfl rfl (pa_cons (pe_callTy (k_list (K := K) rfl) rfl B.list (by decide +kernel) (pa_cons (pv 1) pa_nil)) (pa_cons (pe_lst pa_nil) pa_nil)) rfl)
      (Evl.pss_cut (ps_while PassesOwn.never (pt_cmpR (k_neD (K := K) rfl hr.units) (pv 2) (pe_lst pa_nil) (nomark _))
      (pss_one (ps_expr (k_bm (K := K) rfl PySem.F.plainAttrs_list PySem.F.slot_list_append PySem.F.type_list_append mt_append (pv 3) (pa_cons (k_bm (K := K) rfl PySem.F.plainAttrs_list PySem.F.slot_list_pop PySem.F.type_list_pop mt_popAt (pv 2) (pa_cons (pe_call G_take (hr.mono (by decide)) rfl m_take k_take b_take .nil pass0 (pa_cons (pv 0) (pa_cons (pe_callB (k_len (K := K) rfl) rfl B.len PySem.boot_len (pa_cons (pv 2) pa_nil)) pa_nil))) pa_nil)) pa_nil)))))
      (pss_one (ps_ret (pv 3))))), ?_⟩)
  exact finB (N := N_strewn) (by unfold f_strewn s_strewn_2 s_strewn_1 s_strewn_0; exact (OkS.cut (OkS.par (by decide) (OkW.list (OkA.cons (OkE.var 1) OkA.nil)) (OkW.lst OkA.nil))
      (OkS.cut (OkS.while 100 (OkT.test (OkE.op ok_neD (OkE.var 2) (OkE.lst OkA.nil))) (OkS.expr (OkE.mth ok_app (OkA.cons (OkE.mth ok_pop (OkA.cons (OkW.e (OkW.callB (OkA.cons (OkE.cb ok_len (OkA.cons (OkE.var 2) OkA.nil)) OkA.nil))) OkA.nil)) OkA.nil))))
      (OkS.move 3)))) h
end
def s_souls_0 : M Fl :=
    (parS 2 3 dnew (pl (fz (callB 0 F_of (acons (lstD (acons (get 1) (acons (op2 addD (op2 mulD (con (.int 3)) (get 1)) (con (.int 1))) (acons (op2 powD (con (.int 10)) (con (.int 9))) anil)))) anil)))))
def b_souls_1 : M Fl :=
    (thenS (setS 5 (pl (op2 addD (con (.int 1)) (fz (callB 0 (F_take 2) (acons (cb maxD (acons (con (.int 1)) (acons (get 3) anil))) anil))))))
    (thenS (whileM (dinT false 2 (get 5)) (setS 5 (pl (op2 addD (op2 modD (get 5) (cb maxD (acons (get 3) (acons (get 1) anil)))) (con (.int 1))))) 100)
    (dputS 2 (get 5))))
def s_souls_1 : M Fl :=
    (forS (argI rngD (acons (get 1) anil)) (gN 4) b_souls_1)
def s_souls_2 : M Fl :=
    (retS (pl (sortDct 2)))
def f_souls : M Fl :=
    (thenS s_souls_0 (thenS s_souls_1 s_souls_2))
def F_souls : List PyData → List PyData → Option (Wv × List PyData) := runB 2 6 f_souls
section
variable {P : Program} {w : World} {K : PySem.W.Frag} {mg : Str → Option Value} {base : Heap} {f : Addr} {fd : FuncData}
theorem dk_souls (F : Fun K "_law_souls" "_law_souls" S_souls f fd) {g_take : Addr} {d_take : FuncData} (G_take : FnOk P w K mg base CX0 2 g_take d_take P_take (spB K (F_take 2))) (b_take : Binds K d_take P_take []) (k_take : PySem.W.keepIn K (.ref g_take) = true) (m_take : mg "_law_take" = some (.ref g_take)) {g_of : Addr} {d_of : FuncData} (G_of : FnOk P w K mg base CX0 3 g_of d_of P_of (spB K F_of)) (b_of : Binds K d_of P_of []) (k_of : PySem.W.keepIn K (.ref g_of) = true) (m_of : mg "_law_of" = some (.ref g_of)) (B : Blt mg) : FnOk P w K mg base CX0 4 f fd P_souls (spB K F_souls) := by
  refine F.ok sc_souls (fun vs H Q E h => lenB h) (fun cdv A outer s H vs Q E hr h => ⟨_, (Evl.pss_cut (ps_par (i := 2) (j := 3) rfl sc_souls.nd rfl rfl (by decide) rfl rfl (pa_cons pe_dnewK (pa_cons (pe_call G_of (hr.mono (by decide)) rfl m_of k_of b_of .nil pass0 (pa_cons (pv 0) (pa_cons (pe_lst (pa_cons (pv 1) (pa_cons (pe_op op_add (pe_op op_mul pe_int (pv 1)) pe_int) (pa_cons (pe_op op_pow pe_int pe_int) pa_nil)))) pa_nil))) pa_nil)) rfl)
      (Evl.pss_cut (ps_for PassesOwn.never rfl (pi_range1 rfl B.range (pa_cons (pv 1) pa_nil)) (pg_name (i := 4) sc_souls.nd rfl (by first | exact Or.inl rfl | exact Or.inr rfl))
      (Evl.pss_cut (ps_set (i := 5) sc_souls.nd rfl (by first | exact Or.inl rfl | exact Or.inr rfl) (pe_op op_add pe_int (pe_call G_take (hr.mono (by decide)) rfl m_take k_take b_take .nil pass0 (pa_cons (pv 0) (pa_cons (pe_callB (call_max2 rfl) rfl B.max (by decide +kernel) (pa_cons pe_int (pa_cons (pv 3) pa_nil))) pa_nil)))))
      (Evl.pss_cut (ps_while PassesOwn.never (pt_cmp (pc_din (hu_of hr) (pv 5) (pv 2)))
      (pss_one (ps_set (i := 5) sc_souls.nd rfl (by first | exact Or.inl rfl | exact Or.inr rfl) (pe_op op_add (pe_op op_mod (pv 5) (pe_callB (call_max2 rfl) rfl B.max (by decide +kernel) (pa_cons (pv 3) (pa_cons (pv 1) pa_nil)))) pe_int))))
      (pss_one (ps_dput (hu_of hr) (pv 2) (pv 5) pe_bl rfl)))))
      (pss_one (ps_ret (pe_callB (call_sortedDI rfl) rfl B.sorted (by decide +kernel) (pa_cons (pv 2) pa_nil)))))), ?_⟩)
  exact finB (N := N_souls) (by unfold f_souls s_souls_2 s_souls_1 b_souls_1 s_souls_0; exact (OkS.cut (OkS.par (by decide) OkW.dnew (OkE.w (OkW.e (OkW.callB (OkA.cons (OkE.lst (OkA.cons (OkE.var 1) (OkA.cons (OkE.op ok_add (OkE.op ok_mul (OkE.con fun _ => .int _) (OkE.var 1)) (OkE.con fun _ => .int _)) (OkA.cons (OkE.op ok_pow (OkE.con fun _ => .int _) (OkE.con fun _ => .int _)) OkA.nil)))) OkA.nil)))))
      (OkS.cut (OkS.for (OkI.range1 (OkA.cons (OkE.var 1) OkA.nil)) (OkG.name 4) (by decide) (OkS.cut (OkS.set (by decide) (OkE.w (OkE.op ok_add (OkE.con fun _ => .int _) (OkW.e (OkW.callB (OkA.cons (OkE.cb ok_max (OkA.cons (OkE.con fun _ => .int _) (OkA.cons (OkE.var 3) OkA.nil))) OkA.nil))))))
      (OkS.cut (OkS.while 100 (OkT.din (OkE.var 5)) (OkS.set (by decide) (OkE.w (OkE.op ok_add (OkE.op ok_mod (OkE.var 5) (OkE.cb ok_max (OkA.cons (OkE.var 3) (OkA.cons (OkE.var 1) OkA.nil)))) (OkE.con fun _ => .int _)))))
      (OkS.dput (OkE.var 5)))))
      (OkS.ret (OkE.w OkE.sortDct))))) h
end
def s_crowd_0 : M Fl :=
    (setS 2 (pl (fz (callB 0 F_souls (acons (fz (callB 0 (F_take 2) (acons (op2 addD (get 1) (con (.int 1))) anil))) anil)))))
def s_crowd_1 : M Fl :=
    (ifS (tb1 (op2 (eqA false) (fz (callB 0 (F_take 2) (acons (con (.int 2)) anil))) (con (.int 0)))) (retS (pl (cb tupleD (acons (fz (callB 0 F_strewn (acons (get 2) anil))) anil)))) nxt)
def s_crowd_2 : M Fl :=
    (setS 3 (lstW anil))
def b_crowd_3 : M Fl :=
    (exprS (mthE 3 insD (acons (ifE (tb1 (op2 gtD (fz (callB 0 (F_take 2) (acons (con (.int 3)) anil))) (con (.int 0)))) (op2 divD (cb lenD (acons (get 3) anil)) (con (.int 2))) (fz (callB 0 (F_take 2) (acons (op2 addD (cb lenD (acons (get 3) anil)) (con (.int 1))) anil)))) (acons (get 4) anil))))
def s_crowd_3 : M Fl :=
    (forS (seqI (op1 revD (get 2))) (gN 4) b_crowd_3)
def s_crowd_4 : M Fl :=
    (retS (pl (cb tupleD (acons (get 3) anil))))
def f_crowd : M Fl :=
    (thenS s_crowd_0 (thenS s_crowd_1 (thenS s_crowd_2 (thenS s_crowd_3 s_crowd_4))))
def F_crowd : List PyData → List PyData → Option (Wv × List PyData) := runB 2 5 f_crowd
section
variable {P : Program} {w : World} {K : PySem.W.Frag} {mg : Str → Option Value} {base : Heap} {f : Addr} {fd : FuncData}
theorem dk_crowd (F : Fun K "_law_crowd" "_law_crowd" S_crowd f fd) {g_take : Addr} {d_take : FuncData} (G_take : FnOk P w K mg base CX0 2 g_take d_take P_take (spB K (F_take 2))) (b_take : Binds K d_take P_take []) (k_take : PySem.W.keepIn K (.ref g_take) = true) (m_take : mg "_law_take" = some (.ref g_take)) {g_souls : Addr} {d_souls : FuncData} (G_souls : FnOk P w K mg base CX0 4 g_souls d_souls P_souls (spB K F_souls)) (b_souls : Binds K d_souls P_souls []) (k_souls : PySem.W.keepIn K (.ref g_souls) = true) (m_souls : mg "_law_souls" = some (.ref g_souls)) {g_strewn : Addr} {d_strewn : FuncData} (G_strewn : FnOk P w K mg base CX0 3 g_strewn d_strewn P_strewn (spB K F_strewn)) (b_strewn : Binds K d_strewn P_strewn []) (k_strewn : PySem.W.keepIn K (.ref g_strewn) = true) (m_strewn : mg "_law_strewn" = some (.ref g_strewn)) (B : Blt mg) : FnOk P w K mg base CX0 5 f fd P_crowd (spB K F_crowd) := by
  refine F.ok sc_crowd (fun vs H Q E h => lenB h) (fun cdv A outer s H vs Q E hr h => ⟨_, (Evl.pss_cut (ps_set (i := 2) sc_crowd.nd rfl (by first | exact Or.inl rfl | exact Or.inr rfl) (pe_call G_souls (hr.mono (by decide)) rfl m_souls k_souls b_souls .nil pass0 (pa_cons (pv 0) (pa_cons (pe_call G_take (hr.mono (by decide)) rfl m_take k_take b_take .nil pass0 (pa_cons (pv 0) (pa_cons (pe_op op_add (pv 1) pe_int) pa_nil))) pa_nil))))
      (Evl.pss_cut (ps_if (pt_cmpR op_eq (pe_call G_take (hr.mono (by decide)) rfl m_take k_take b_take .nil pass0 (pa_cons (pv 0) (pa_cons pe_int pa_nil))) pe_int (nomark _)) (pss_one (ps_ret (pe_callTy (k_tup (K := K) rfl) rfl B.tuple (by decide +kernel) (pa_cons (pe_call G_strewn (hr.mono (by decide)) rfl m_strewn k_strewn b_strewn .nil pass0 (pa_cons (pv 0) (pa_cons (pv 2) pa_nil))) pa_nil)))) pss_nil)
      (Evl.pss_cut (ps_set (i := 3) sc_crowd.nd rfl (by first | exact Or.inl rfl | exact Or.inr rfl) (pe_lst pa_nil))
      (Evl.pss_cut (ps_for PassesOwn.never rfl (k_seq (K := K) rfl (k_revW (K := K) rfl (pv 2))) (pg_name (i := 4) sc_crowd.nd rfl (by first | exact Or.inl rfl | exact Or.inr rfl))
      (pss_one (ps_expr (k_bm (K := K) rfl PySem.F.plainAttrs_list PySem.F.slot_list_insert PySem.F.type_list_insert mt_insert (pv 3) (pa_cons (pe_ifExp (pt_cmpR op_gt (pe_call G_take (hr.mono (by decide)) rfl m_take k_take b_take .nil pass0 (pa_cons (pv 0) (pa_cons pe_int pa_nil))) pe_int (nomark _)) (pe_op op_fdiv (pe_callB (k_len (K := K) rfl) rfl B.len PySem.boot_len (pa_cons (pv 3) pa_nil)) pe_int) (pe_call G_take (hr.mono (by decide)) rfl m_take k_take b_take .nil pass0 (pa_cons (pv 0) (pa_cons (pe_op op_add (pe_callB (k_len (K := K) rfl) rfl B.len PySem.boot_len (pa_cons (pv 3) pa_nil)) pe_int) pa_nil)))) (pa_cons (pv 4) pa_nil))))))
      (pss_one (ps_ret (pe_callTy (k_tup (K := K) rfl) rfl B.tuple (by decide +kernel) (pa_cons (pv 3) pa_nil)))))))), ?_⟩)
  exact finB (N := N_crowd) (by unfold f_crowd s_crowd_4 s_crowd_3 b_crowd_3 s_crowd_2 s_crowd_1 s_crowd_0; exact (OkS.cut (OkS.set (by decide) (OkE.w (OkW.e (OkW.callB (OkA.cons (OkW.e (OkW.callB (OkA.cons (OkE.op ok_add (OkE.var 1) (OkE.con fun _ => .int _)) OkA.nil))) OkA.nil)))))
      (OkS.cut (OkS.ife (OkT.test (OkE.op ok_eq (OkW.e (OkW.callB (OkA.cons (OkE.con fun _ => .int _) OkA.nil))) (OkE.con fun _ => .int _))) (OkS.ret (OkE.w (OkE.cb ok_tuple (OkA.cons (OkW.e (OkW.callB (OkA.cons (OkE.var 2) OkA.nil))) OkA.nil)))) OkS.nil)
      (OkS.cut (OkS.set (by decide) (OkW.lst OkA.nil))
      (OkS.cut (OkS.for (OkI.seq (OkE.rev (OkE.var 2))) (OkG.name 4) (by decide) (OkS.expr (OkE.mth ok_ins (OkA.cons (OkE.ife (OkT.test (OkE.op ok_gt (OkW.e (OkW.callB (OkA.cons (OkE.con fun _ => .int _) OkA.nil))) (OkE.con fun _ => .int _))) (OkE.op ok_div (OkE.cb ok_len (OkA.cons (OkE.var 3) OkA.nil)) (OkE.con fun _ => .int _)) (OkW.e (OkW.callB (OkA.cons (OkE.op ok_add (OkE.cb ok_len (OkA.cons (OkE.var 3) OkA.nil)) (OkE.con fun _ => .int _)) OkA.nil)))) (OkA.cons (OkE.var 4) OkA.nil)))))
      (OkS.ret (OkE.w (OkE.cb ok_tuple (OkA.cons (OkE.var 3) OkA.nil))))))))) h
end
def f_same (rec : List PyData → Option Wv) : M Fl :=
    (thenS (ifS (tb1 (isiE2 "list" "tuple" (get 1))) (thenS (ifS (orT (tb1 (op2 (eqA true) (isiE "list" (get 0)) (isiE "list" (get 1)))) (tb1 (op2 (eqA true) (isiE "tuple" (get 0)) (isiE "tuple" (get 1))))) (retS (pl (con (.bool false)))) nxt)
    (retS (pl (andV (op2 (eqA false) (cb lenD (acons (get 0) anil)) (cb lenD (acons (get 1) anil))) (cb allD (acons (fz (lcW (argI zipD (acons (get 0) (acons (get 1) anil))) (gT (gsC (gN 2) (gsC (gN 3) gsN))) yesT (fz (callA rec (acons (get 2) (acons (get 3) anil)))) [2, 3])) anil)))))) nxt)
    (thenS (ifS (orT (tb1 (isNE false (get 1))) (tb1 (isiE2 "bool" "str" (get 1)))) (retS (pl (andV (op2 (eqvD false) (get 0) (get 1)) (andV (op2 (eqA false) (isiE "bool" (get 0)) (isiE "bool" (get 1))) (op2 (eqA false) (isNE false (get 0)) (isNE false (get 1))))))) nxt)
    (retS (pl (andV (isiE "int" (get 0)) (andV (notV (isiE "bool" (get 0))) (op2 (eqvD false) (get 0) (get 1))))))))
def F_same : Nat → List PyData → Option Wv
  | 0 => fun _ => none
  | n + 1 => runA 2 4 (f_same (F_same n))
section
variable {P : Program} {w : World} {K : PySem.W.Frag} {mg : Str → Option Value} {base : Heap} {f : Addr} {fd : FuncData}
theorem dk_same (F : Fun K "_law_same" "_law_same" S_same f fd)  (b : Binds K fd P_same []) (m : mg "_law_same" = some (.ref f)) (B : Blt mg) : ∀ n, FnOk P w K mg base CX0 (0 + n) f fd P_same (spA K (F_same n))
  | 0 => ⟨fun vs H Q E h => (vacA h).elim, fun A outer s H args us vs Q E hr he hb hv h => (vacA h).elim⟩
  | n + 1 => by
    have G := dk_same F  b m B n
    refine F.ok sc_same (fun vs H Q E h => lenA h) (fun cdv A outer s H vs Q E hr h => ⟨_, (Evl.pss_cut (ps_if (pt_val (pe_callB (k_isiT (K := K) rfl) rfl B.isinstance (by decide +kernel) (pa_cons (pv 1) (pa_cons (pe_tup (pa_cons (pe_bltn (v := .ty "list") rfl B.list (by decide +kernel) rfl) (pa_cons (pe_bltn (v := .ty "tuple") rfl B.tuple (by decide +kernel) rfl) pa_nil))) pa_nil)))) (Evl.pss_cut (ps_if (PW.pt (pw_or (pt_cmpR op_ne (pe_callB (k_isi (K := K) rfl) rfl B.isinstance (by decide +kernel) (pa_cons (pv 0) (pa_cons (pe_bltn (v := .ty "list") rfl B.list (by decide +kernel) rfl) pa_nil))) (pe_callB (k_isi (K := K) rfl) rfl B.isinstance (by decide +kernel) (pa_cons (pv 1) (pa_cons (pe_bltn (v := .ty "list") rfl B.list (by decide +kernel) rfl) pa_nil))) (nomark _)) (pw_or1 (pt_cmpR op_ne (pe_callB (k_isi (K := K) rfl) rfl B.isinstance (by decide +kernel) (pa_cons (pv 0) (pa_cons (pe_bltn (v := .ty "tuple") rfl B.tuple (by decide +kernel) rfl) pa_nil))) (pe_callB (k_isi (K := K) rfl) rfl B.isinstance (by decide +kernel) (pa_cons (pv 1) (pa_cons (pe_bltn (v := .ty "tuple") rfl B.tuple (by decide +kernel) rfl) pa_nil))) (nomark _))))) (pss_one (ps_ret pe_bl)) pss_nil)
      (pss_one (ps_ret (pe_and (pe_cmpR op_eq (pe_callB (k_len (K := K) rfl) rfl B.len PySem.boot_len (pa_cons (pv 0) pa_nil)) (pe_callB (k_len (K := K) rfl) rfl B.len PySem.boot_len (pa_cons (pv 1) pa_nil)) (nomark _)) (pe_one (pe_callB (k_all (K := K) rfl rfl) rfl B.all (by decide +kernel) (pa_cons (pe_lc (own := [("_law_a", 2), ("_law_b", 3)]) (g := (gTup K 2 (gCons (gName 2) (gCons (gName 3) gNil)))) rfl sc_same.nd (k_zipB (K := K) rfl rfl B.zip (pa_cons (pv 0) (pa_cons (pv 1) pa_nil))) (blkOk_by (own := [("_law_a", 2), ("_law_b", 3)]) (N := ["_law_found", "_law_due_here", "_law_a", "_law_b"]) (sc := defScope S_same) (by decide +kernel)) (fun _ _ _ _ _ => by exact (pg_tup rfl (pgs_cons (pg_name (i := 2) sc_same.nd rfl (by first | exact Or.inl rfl | exact Or.inr rfl)) (pgs_cons (pg_name (i := 3) sc_same.nd rfl (by first | exact Or.inl rfl | exact Or.inr rfl)) pgs_nil)))) (fun _ _ _ _ _ => pts_nil) (fun _ _ _ _ _ => (pe_call G hr rfl m F.kp b .nil pass0 (pa_cons (pv 2) (pa_cons (pv 3) pa_nil))))) pa_nil))))))) pss_nil)
      (Evl.pss_cut (ps_if (PW.pt (pw_or (pt_cmpR op_isN (pv 1) pe_non (nomark _)) (pw_or1 (pt_val (pe_callB (k_isiT (K := K) rfl) rfl B.isinstance (by decide +kernel) (pa_cons (pv 1) (pa_cons (pe_tup (pa_cons (pe_bltn (v := .ty "bool") rfl B.bool (by decide +kernel) rfl) (pa_cons (pe_bltn (v := .ty "str") rfl B.str (by decide +kernel) rfl) pa_nil))) pa_nil))))))) (pss_one (ps_ret (pe_and (pe_cmpR (k_eqD (K := K) rfl hr.units) (pv 0) (pv 1) (nomark _)) (pe_and (pe_cmpR op_eq (pe_callB (k_isi (K := K) rfl) rfl B.isinstance (by decide +kernel) (pa_cons (pv 0) (pa_cons (pe_bltn (v := .ty "bool") rfl B.bool (by decide +kernel) rfl) pa_nil))) (pe_callB (k_isi (K := K) rfl) rfl B.isinstance (by decide +kernel) (pa_cons (pv 1) (pa_cons (pe_bltn (v := .ty "bool") rfl B.bool (by decide +kernel) rfl) pa_nil))) (nomark _)) (pe_one (pe_cmpR op_eq (pe_cmpR op_isN (pv 0) pe_non (nomark _)) (pe_cmpR op_isN (pv 1) pe_non (nomark _)) (nomark _))))))) pss_nil)
      (pss_one (ps_ret (pe_and (pe_callB (k_isi (K := K) rfl) rfl B.isinstance (by decide +kernel) (pa_cons (pv 0) (pa_cons (pe_bltn (v := .ty "int") rfl B.int (by decide +kernel) rfl) pa_nil))) (pe_and (pe_not (pe_callB (k_isi (K := K) rfl) rfl B.isinstance (by decide +kernel) (pa_cons (pv 0) (pa_cons (pe_bltn (v := .ty "bool") rfl B.bool (by decide +kernel) rfl) pa_nil)))) (pe_one (pe_cmpR (k_eqD (K := K) rfl hr.units) (pv 0) (pv 1) (nomark _))))))))), ?_⟩)
    exact finA (N := N_same) (by unfold f_same; exact (OkS.cut (OkS.ife (OkT.val (OkE.isi2 (OkE.var 1))) (OkS.cut (OkS.ife (OkT.or (OkT.test (OkE.op ok_ne (OkE.isi (OkE.var 0)) (OkE.isi (OkE.var 1)))) (OkT.test (OkE.op ok_ne (OkE.isi (OkE.var 0)) (OkE.isi (OkE.var 1))))) (OkS.ret (OkE.w (OkE.con fun _ => .bl _))) OkS.nil)
      (OkS.ret (OkE.w (OkE.and (OkE.op ok_eq (OkE.cb ok_len (OkA.cons (OkE.var 0) OkA.nil)) (OkE.cb ok_len (OkA.cons (OkE.var 1) OkA.nil))) (OkE.cb ok_all (OkA.cons (OkW.e (OkW.lc (vs := [2, 3]) (OkI.zipA (OkA.cons (OkE.var 0) (OkA.cons (OkE.var 1) OkA.nil))) (OkG.tup (OkGs.cons (OkG.name 2) (OkGs.cons (OkG.name 3) OkGs.nil))) (by decide) OkT.yes (OkW.e (OkW.call (OkA.cons (OkE.var 2) (OkA.cons (OkE.var 3) OkA.nil)))))) OkA.nil)))))) OkS.nil)
      (OkS.cut (OkS.ife (OkT.or (OkT.test (OkE.isN (OkE.var 1))) (OkT.val (OkE.isi2 (OkE.var 1)))) (OkS.ret (OkE.w (OkE.and (OkE.op ok_eqD (OkE.var 0) (OkE.var 1)) (OkE.and (OkE.op ok_eq (OkE.isi (OkE.var 0)) (OkE.isi (OkE.var 1))) (OkE.op ok_eq (OkE.isN (OkE.var 0)) (OkE.isN (OkE.var 1))))))) OkS.nil)
      (OkS.ret (OkE.w (OkE.and (OkE.isi (OkE.var 0)) (OkE.and (OkE.not (OkE.isi (OkE.var 0))) (OkE.op ok_eqD (OkE.var 0) (OkE.var 1))))))))) h
end
def f_lists (rec : List PyData → Option Wv) : M Fl :=
    (retS (pl (ifE (tb1 (isiE2 "list" "tuple" (get 0))) (fz (lcW (seqI (get 0)) (gN 1) yesT (fz (callA rec (acons (get 1) anil))) [1])) (get 0))))
def F_lists : Nat → List PyData → Option Wv
  | 0 => fun _ => none
  | n + 1 => runA 1 2 (f_lists (F_lists n))
section
variable {P : Program} {w : World} {K : PySem.W.Frag} {mg : Str → Option Value} {base : Heap} {f : Addr} {fd : FuncData}
theorem dk_lists (F : Fun K "_law_lists" "_law_lists" S_lists f fd)  (b : Binds K fd P_lists []) (m : mg "_law_lists" = some (.ref f)) (B : Blt mg) : ∀ n, FnOk P w K mg base CX0 (0 + n) f fd P_lists (spA K (F_lists n))
  | 0 => ⟨fun vs H Q E h => (vacA h).elim, fun A outer s H args us vs Q E hr he hb hv h => (vacA h).elim⟩
  | n + 1 => by
    have G := dk_lists F  b m B n
    refine F.ok sc_lists (fun vs H Q E h => lenA h) (fun cdv A outer s H vs Q E hr h => ⟨_, (pss_one (ps_ret (pe_ifExp (pt_val (pe_callB (k_isiT (K := K) rfl) rfl B.isinstance (by decide +kernel) (pa_cons (pv 0) (pa_cons (pe_tup (pa_cons (pe_bltn (v := .ty "list") rfl B.list (by decide +kernel) rfl) (pa_cons (pe_bltn (v := .ty "tuple") rfl B.tuple (by decide +kernel) rfl) pa_nil))) pa_nil)))) (pe_lc (own := [("_law_piece", 1)]) (g := (gName 1)) rfl sc_lists.nd (k_seq (K := K) rfl (pv 0)) (blkOk_by (own := [("_law_piece", 1)]) (N := ["_law_part", "_law_piece"]) (sc := defScope S_lists) (by decide +kernel)) (fun _ _ _ _ _ => by exact (pg_name (i := 1) sc_lists.nd rfl (by first | exact Or.inl rfl | exact Or.inr rfl))) (fun _ _ _ _ _ => pts_nil) (fun _ _ _ _ _ => (pe_call G hr rfl m F.kp b .nil pass0 (pa_cons (pv 1) pa_nil)))) (pv 0)))), ?_⟩)
    exact finA (N := N_lists) (by unfold f_lists; exact (OkS.ret (OkE.w (OkE.ife (OkT.val (OkE.isi2 (OkE.var 0))) (OkW.e (OkW.lc (vs := [1]) (OkI.seq (OkE.var 0)) (OkG.name 1) (by decide) OkT.yes (OkW.e (OkW.call (OkA.cons (OkE.var 1) OkA.nil))))) (OkE.var 0))))) h
end
def f_is_number : M Fl :=
    (retS (pl (andV (isiE "int" (get 0)) (notV (isiE "bool" (get 0))))))
def F_is_number : List PyData → Option Wv := runA 1 1 f_is_number
section
variable {P : Program} {w : World} {K : PySem.W.Frag} {mg : Str → Option Value} {base : Heap} {f : Addr} {fd : FuncData}
theorem dk_is_number (F : Fun K "is_number" "is_number" S_is_number f fd)  (B : Blt mg) : FnOk P w K mg base CX0 1 f fd P_is_number (spA K F_is_number) := by
  refine F.ok sc_is_number (fun vs H Q E h => lenA h) (fun cdv A outer s H vs Q E hr h => ⟨_, (pss_one (ps_ret (pe_and (pe_callB (k_isi (K := K) rfl) rfl B.isinstance (by decide +kernel) (pa_cons (pv 0) (pa_cons (pe_bltn (v := .ty "int") rfl B.int (by decide +kernel) rfl) pa_nil))) (pe_one (pe_not (pe_callB (k_isi (K := K) rfl) rfl B.isinstance (by decide +kernel) (pa_cons (pv 0) (pa_cons (pe_bltn (v := .ty "bool") rfl B.bool (by decide +kernel) rfl) pa_nil)))))))), ?_⟩)
  exact finA (N := N_is_number) (by unfold f_is_number; exact (OkS.ret (OkE.w (OkE.and (OkE.isi (OkE.var 0)) (OkE.not (OkE.isi (OkE.var 0))))))) h
end
def s_is_row_0 : M Fl :=
    (ifS (notT (tb1 (isiE "tuple" (get 0)))) (retS (pl (con (.bool false)))) nxt)
def s_is_row_1 : M Fl :=
    (ifS (notT (tb1 (cb allD (acons (fz (lcW (seqI (get 0)) (gN 1) yesT (andV (fz (callA F_is_number (acons (get 1) anil))) (op2 geD (get 1) (con (.int 1)))) [1])) anil)))) (retS (pl (con (.bool false)))) nxt)
def s_is_row_2 : M Fl :=
    (retS (pl (op2 (eqA false) (op1 lenSetD (get 0)) (cb lenD (acons (get 0) anil)))))
def f_is_row : M Fl :=
    (thenS s_is_row_0 (thenS s_is_row_1 s_is_row_2))
def F_is_row : List PyData → Option Wv := runA 1 2 f_is_row
section
variable {P : Program} {w : World} {K : PySem.W.Frag} {mg : Str → Option Value} {base : Heap} {f : Addr} {fd : FuncData}
theorem dk_is_row (F : Fun K "is_row" "is_row" S_is_row f fd) {g_is_number : Addr} {d_is_number : FuncData} (G_is_number : FnOk P w K mg base CX0 1 g_is_number d_is_number P_is_number (spA K F_is_number)) (b_is_number : Binds K d_is_number P_is_number []) (k_is_number : PySem.W.keepIn K (.ref g_is_number) = true) (m_is_number : mg "is_number" = some (.ref g_is_number)) (B : Blt mg) : FnOk P w K mg base CX0 2 f fd P_is_row (spA K F_is_row) := by
  refine F.ok sc_is_row (fun vs H Q E h => lenA h) (fun cdv A outer s H vs Q E hr h => ⟨_, (Evl.pss_cut (ps_if (pt_not (pt_val (pe_callB (k_isi (K := K) rfl) rfl B.isinstance (by decide +kernel) (pa_cons (pv 0) (pa_cons (pe_bltn (v := .ty "tuple") rfl B.tuple (by decide +kernel) rfl) pa_nil))))) (pss_one (ps_ret pe_bl)) pss_nil)
      (Evl.pss_cut (ps_if (pt_not (pt_val (pe_callB (k_all (K := K) rfl rfl) rfl B.all (by decide +kernel) (pa_cons (pe_lc (own := [("height", 1)]) (g := (gName 1)) rfl sc_is_row.nd (k_seq (K := K) rfl (pv 0)) (blkOk_by (own := [("height", 1)]) (N := ["thing", "height"]) (sc := defScope S_is_row) (by decide +kernel)) (fun _ _ _ _ _ => by exact (pg_name (i := 1) sc_is_row.nd rfl (by first | exact Or.inl rfl | exact Or.inr rfl))) (fun _ _ _ _ _ => pts_nil) (fun _ _ _ _ _ => (pe_and (pe_call G_is_number (hr.mono (by decide)) rfl m_is_number k_is_number b_is_number .nil pass0 (pa_cons (pv 1) pa_nil)) (pe_one (pe_cmpR op_ge (pv 1) pe_int (nomark _)))))) pa_nil)))) (pss_one (ps_ret pe_bl)) pss_nil)
      (pss_one (ps_ret (pe_cmpR op_eq (k_lenSet (K := K) rfl rfl rfl B.len rfl B.set (pv 0)) (pe_callB (k_len (K := K) rfl) rfl B.len PySem.boot_len (pa_cons (pv 0) pa_nil)) (nomark _)))))), ?_⟩)
  exact finA (N := N_is_row) (by unfold f_is_row s_is_row_2 s_is_row_1 s_is_row_0; exact (OkS.cut (OkS.ife (OkT.not (OkT.val (OkE.isi (OkE.var 0)))) (OkS.ret (OkE.w (OkE.con fun _ => .bl _))) OkS.nil)
      (OkS.cut (OkS.ife (OkT.not (OkT.val (OkE.cb ok_all (OkA.cons (OkW.e (OkW.lc (vs := [1]) (OkI.seq (OkE.var 0)) (OkG.name 1) (by decide) OkT.yes (OkE.and (OkW.e (OkW.call (OkA.cons (OkE.var 1) OkA.nil))) (OkE.op ok_ge (OkE.var 1) (OkE.con fun _ => .int _))))) OkA.nil)))) (OkS.ret (OkE.w (OkE.con fun _ => .bl _))) OkS.nil)
      (OkS.ret (OkE.w (OkE.op ok_eq (OkE.lenSet (OkE.var 0)) (OkE.cb ok_len (OkA.cons (OkE.var 0) OkA.nil)))))))) h
end
def f_joined : M Fl :=
    (retS (pl (ifE (tbL (get 0)) (txM1 joinTD (con (.str " ")) (get 0)) (con (.str "-")))))
def F_joined : List PyData → Option Wv := runA 1 1 f_joined
section
variable {P : Program} {w : World} {K : PySem.W.Frag} {mg : Str → Option Value} {base : Heap} {f : Addr} {fd : FuncData}
theorem dk_joined (F : Fun K "joined" "joined" S_joined f fd)  (B : Blt mg) {tNOTHING : Tok} (zNOTHING : mg "NOTHING" = some (.str "-" tNOTHING)) : FnOk P w K mg base CX0 1 f fd P_joined (spA K F_joined) := by
  refine F.ok sc_joined (fun vs H Q E h => lenA h) (fun cdv A outer s H vs Q E hr h => ⟨_, (pss_one (ps_ret (pe_ifExp (pt_truth (pv 0) (fun _ => rfl)) (k_joinT (K := K) rfl pe_str (pv 0)) (pe_glob (v := .str "-") rfl zNOTHING ⟨_, rfl⟩)))), ?_⟩)
  exact finA (N := N_joined) (by unfold f_joined; exact (OkS.ret (OkE.w (OkE.ife (OkT.tru (OkE.var 0)) (OkE.txM1 ok_join (OkE.con fun _ => .str _) (OkE.var 0)) (OkE.con fun _ => .str _))))) h
end
def f_words_in : M Fl :=
    (retS (pl (ifE (tb1 (op2 (eqA false) (get 0) (con (.str "-")))) (lstD anil) (fz (splitW (get 0) (con (.str " ")))))))
def F_words_in : List PyData → Option Wv := runA 1 1 f_words_in
section
variable {P : Program} {w : World} {K : PySem.W.Frag} {mg : Str → Option Value} {base : Heap} {f : Addr} {fd : FuncData}
theorem dk_words_in (F : Fun K "words_in" "words_in" S_words_in f fd)  (B : Blt mg) {tNOTHING : Tok} (zNOTHING : mg "NOTHING" = some (.str "-" tNOTHING)) : FnOk P w K mg base CX0 1 f fd P_words_in (spA K F_words_in) := by
  refine F.ok sc_words_in (fun vs H Q E h => lenA h) (fun cdv A outer s H vs Q E hr h => ⟨_, (pss_one (ps_ret (pe_ifExp (pt_cmpR op_eq (pv 0) (pe_glob (v := .str "-") rfl zNOTHING ⟨_, rfl⟩) (nomark _)) (pe_lst pa_nil) (pe_split (pv 0) pe_str)))), ?_⟩)
  exact finA (N := N_words_in) (by unfold f_words_in; exact (OkS.ret (OkE.w (OkE.ife (OkT.test (OkE.op ok_eq (OkE.var 0) (OkE.con fun _ => .str _))) (OkE.lst OkA.nil) (OkW.e (OkW.split (OkE.var 0) (OkE.con fun _ => .str _))))))) h
end
def s_is_written_number_0 : M Fl :=
    (ifS (orT (tb1 (op2 gtD (cb lenTD (acons (get 0) anil)) (con (.int 10)))) (orT (notT (tb1 (txM0 (flagD Txt.isascii) (get 0)))) (notT (tb1 (txM0 (flagD Txt.isdigit) (get 0)))))) (retS (pl (con (.bool false)))) nxt)
def s_is_written_number_1 : M Fl :=
    (retS (pl (op2 (eqA false) (cb strD (acons (cb intTD (acons (get 0) anil)) anil)) (get 0))))
def f_is_written_number : M Fl :=
    (thenS s_is_written_number_0 s_is_written_number_1)
def F_is_written_number : List PyData → Option Wv := runA 1 1 f_is_written_number
section
variable {P : Program} {w : World} {K : PySem.W.Frag} {mg : Str → Option Value} {base : Heap} {f : Addr} {fd : FuncData}
theorem dk_is_written_number (F : Fun K "is_written_number" "is_written_number" S_is_written_number f fd)  (B : Blt mg) {tMOST_DIGITS : Tok} (zMOST_DIGITS : mg "MOST_DIGITS" = some (.int 10 tMOST_DIGITS)) : FnOk P w K mg base CX0 1 f fd P_is_written_number (spA K F_is_written_number) := by
  refine F.ok sc_is_written_number (fun vs H Q E h => lenA h) (fun cdv A outer s H vs Q E hr h => ⟨_, (Evl.pss_cut (ps_if (PW.pt (pw_or (pt_cmpR op_gt (pe_callB call_len_str rfl B.len PySem.boot_len (pa_cons (pv 0) pa_nil)) (pe_glob (v := .int 10) rfl zMOST_DIGITS ⟨_, rfl⟩) (nomark _)) (pw_or (pt_not (pt_val (pe_m0 PySem.F.slot_str_isascii PySem.F.type_str_isascii mt_isascii (pv 0)))) (pw_or1 (pt_not (pt_val (pe_m0 PySem.F.slot_str_isdigit PySem.F.type_str_isdigit mt_isdigit (pv 0)))))))) (pss_one (ps_ret pe_bl)) pss_nil)
      (pss_one (ps_ret (pe_cmpR op_eq (pe_callTy call_str_int rfl B.str (by decide +kernel) (pa_cons (pe_callTy call_int_str rfl B.int (by decide +kernel) (pa_cons (pv 0) pa_nil)) pa_nil)) (pv 0) (nomark _))))), ?_⟩)
  exact finA (N := N_is_written_number) (by unfold f_is_written_number s_is_written_number_1 s_is_written_number_0; exact (OkS.cut (OkS.ife (OkT.or (OkT.test (OkE.op ok_gt (OkE.cb ok_lenTx (OkA.cons (OkE.var 0) OkA.nil)) (OkE.con fun _ => .int _))) (OkT.or (OkT.not (OkT.val (OkE.txM0 (ok_flag Txt.isascii) (OkE.var 0)))) (OkT.not (OkT.val (OkE.txM0 (ok_flag Txt.isdigit) (OkE.var 0)))))) (OkS.ret (OkE.w (OkE.con fun _ => .bl _))) OkS.nil)
      (OkS.ret (OkE.w (OkE.op ok_eq (OkE.cb ok_str (OkA.cons (OkE.cb ok_intT (OkA.cons (OkE.var 0) OkA.nil)) OkA.nil)) (OkE.var 0)))))) h
end
def f_is_written_pair : M Fl :=
    (retS (pl (andV (op2 (eqA false) (cb lenD (acons (get 0) anil)) (con (.int 2))) (cb allD (acons (fz (lcW (seqI (get 0)) (gN 1) yesT (fz (callA F_is_written_number (acons (get 1) anil))) [1])) anil)))))
def F_is_written_pair : List PyData → Option Wv := runA 1 2 f_is_written_pair
section
variable {P : Program} {w : World} {K : PySem.W.Frag} {mg : Str → Option Value} {base : Heap} {f : Addr} {fd : FuncData}
theorem dk_is_written_pair (F : Fun K "is_written_pair" "is_written_pair" S_is_written_pair f fd) {g_is_written_number : Addr} {d_is_written_number : FuncData} (G_is_written_number : FnOk P w K mg base CX0 1 g_is_written_number d_is_written_number P_is_written_number (spA K F_is_written_number)) (b_is_written_number : Binds K d_is_written_number P_is_written_number []) (k_is_written_number : PySem.W.keepIn K (.ref g_is_written_number) = true) (m_is_written_number : mg "is_written_number" = some (.ref g_is_written_number)) (B : Blt mg) : FnOk P w K mg base CX0 2 f fd P_is_written_pair (spA K F_is_written_pair) := by
  refine F.ok sc_is_written_pair (fun vs H Q E h => lenA h) (fun cdv A outer s H vs Q E hr h => ⟨_, (pss_one (ps_ret (pe_and (pe_cmpR op_eq (pe_callB (k_len (K := K) rfl) rfl B.len PySem.boot_len (pa_cons (pv 0) pa_nil)) pe_int (nomark _)) (pe_one (pe_callB (k_all (K := K) rfl rfl) rfl B.all (by decide +kernel) (pa_cons (pe_lc (own := [("word", 1)]) (g := (gName 1)) rfl sc_is_written_pair.nd (k_seq (K := K) rfl (pv 0)) (blkOk_by (own := [("word", 1)]) (N := ["part", "word"]) (sc := defScope S_is_written_pair) (by decide +kernel)) (fun _ _ _ _ _ => by exact (pg_name (i := 1) sc_is_written_pair.nd rfl (by first | exact Or.inl rfl | exact Or.inr rfl))) (fun _ _ _ _ _ => pts_nil) (fun _ _ _ _ _ => (pe_call G_is_written_number (hr.mono (by decide)) rfl m_is_written_number k_is_written_number b_is_written_number .nil pass0 (pa_cons (pv 1) pa_nil)))) pa_nil)))))), ?_⟩)
  exact finA (N := N_is_written_pair) (by unfold f_is_written_pair; exact (OkS.ret (OkE.w (OkE.and (OkE.op ok_eq (OkE.cb ok_len (OkA.cons (OkE.var 0) OkA.nil)) (OkE.con fun _ => .int _)) (OkE.cb ok_all (OkA.cons (OkW.e (OkW.lc (vs := [1]) (OkI.seq (OkE.var 0)) (OkG.name 1) (by decide) OkT.yes (OkW.e (OkW.call (OkA.cons (OkE.var 1) OkA.nil))))) OkA.nil)))))) h
end
def f_row_text : M Fl :=
    (retS (pl (fz (callA F_joined (acons (fz (lcW (seqI (get 0)) (gN 1) yesT (cb strD (acons (get 1) anil)) [1])) anil)))))
def F_row_text : List PyData → Option Wv := runA 1 2 f_row_text
section
variable {P : Program} {w : World} {K : PySem.W.Frag} {mg : Str → Option Value} {base : Heap} {f : Addr} {fd : FuncData}
theorem dk_row_text (F : Fun K "row_text" "row_text" S_row_text f fd) {g_joined : Addr} {d_joined : FuncData} (G_joined : FnOk P w K mg base CX0 1 g_joined d_joined P_joined (spA K F_joined)) (b_joined : Binds K d_joined P_joined []) (k_joined : PySem.W.keepIn K (.ref g_joined) = true) (m_joined : mg "joined" = some (.ref g_joined)) (B : Blt mg) : FnOk P w K mg base CX0 2 f fd P_row_text (spA K F_row_text) := by
  refine F.ok sc_row_text (fun vs H Q E h => lenA h) (fun cdv A outer s H vs Q E hr h => ⟨_, (pss_one (ps_ret (pe_call G_joined (hr.mono (by decide)) rfl m_joined k_joined b_joined .nil pass0 (pa_cons (pe_lc (own := [("height", 1)]) (g := (gName 1)) rfl sc_row_text.nd (k_seq (K := K) rfl (pv 0)) (blkOk_by (own := [("height", 1)]) (N := ["row", "height"]) (sc := defScope S_row_text) (by decide +kernel)) (fun _ _ _ _ _ => by exact (pg_name (i := 1) sc_row_text.nd rfl (by first | exact Or.inl rfl | exact Or.inr rfl))) (fun _ _ _ _ _ => pts_nil) (fun _ _ _ _ _ => (pe_callTy call_str_int rfl B.str (by decide +kernel) (pa_cons (pv 1) pa_nil)))) pa_nil)))), ?_⟩)
  exact finA (N := N_row_text) (by unfold f_row_text; exact (OkS.ret (OkE.w (OkW.e (OkW.call (OkA.cons (OkW.e (OkW.lc (vs := [1]) (OkI.seq (OkE.var 0)) (OkG.name 1) (by decide) OkT.yes (OkE.cb ok_str (OkA.cons (OkE.var 1) OkA.nil)))) OkA.nil)))))) h
end
def f_pairs_text : M Fl :=
    (retS (pl (fz (callA F_joined (acons (fz (lcW (seqI (get 0)) (gTL (gsC (gN 1) (gsC (gN 2) gsN))) yesT (joinD [(fmtE (get 1)), (con (.str "-")), (fmtE (get 2))] PySem.Str.empty) [1, 2])) anil)))))
def F_pairs_text : List PyData → Option Wv := runA 1 3 f_pairs_text
section
variable {P : Program} {w : World} {K : PySem.W.Frag} {mg : Str → Option Value} {base : Heap} {f : Addr} {fd : FuncData}
theorem dk_pairs_text (F : Fun K "pairs_text" "pairs_text" S_pairs_text f fd) {g_joined : Addr} {d_joined : FuncData} (G_joined : FnOk P w K mg base CX0 1 g_joined d_joined P_joined (spA K F_joined)) (b_joined : Binds K d_joined P_joined []) (k_joined : PySem.W.keepIn K (.ref g_joined) = true) (m_joined : mg "joined" = some (.ref g_joined)) (B : Blt mg) : FnOk P w K mg base CX0 2 f fd P_pairs_text (spA K F_pairs_text) := by
  refine F.ok sc_pairs_text (fun vs H Q E h => lenA h) (fun cdv A outer s H vs Q E hr h => ⟨_, (pss_one (ps_ret (pe_call G_joined (hr.mono (by decide)) rfl m_joined k_joined b_joined .nil pass0 (pa_cons (pe_lc (own := [("left", 1), ("right", 2)]) (g := (gUnE K 2 (gCons (gName 1) (gCons (gName 2) gNil)))) rfl sc_pairs_text.nd (k_seq (K := K) rfl (pv 0)) (blkOk_by (own := [("left", 1), ("right", 2)]) (N := ["pairs", "left", "right"]) (sc := defScope S_pairs_text) (by decide +kernel)) (fun _ _ _ _ _ => by exact (pg_unE rfl (pgs_cons (pg_name (i := 1) sc_pairs_text.nd rfl (by first | exact Or.inl rfl | exact Or.inr rfl)) (pgs_cons (pg_name (i := 2) sc_pairs_text.nd rfl (by first | exact Or.inl rfl | exact Or.inr rfl)) pgs_nil)))) (fun _ _ _ _ _ => pts_nil) (fun _ _ _ _ _ => (pe_joined (.cons (pe_fmt (pv 1)) (.cons pe_str (.cons (pe_fmt (pv 2)) .nil)))))) pa_nil)))), ?_⟩)
  exact finA (N := N_pairs_text) (by unfold f_pairs_text; exact (OkS.ret (OkE.w (OkW.e (OkW.call (OkA.cons (OkW.e (OkW.lc (vs := [1, 2]) (OkI.seq (OkE.var 0)) (OkG.tupL (OkGs.cons (OkG.name 1) (OkGs.cons (OkG.name 2) OkGs.nil))) (by decide) OkT.yes (OkE.join (OkJL.cons (OkE.fmt (OkE.var 1)) (OkJL.cons (OkE.con fun _ => .str _) (OkJL.cons (OkE.fmt (OkE.var 2)) OkJL.nil)))))) OkA.nil)))))) h
end
def s_row_in_0 : M Fl :=
    (setS 1 (pl (fz (callA F_words_in (acons (get 0) anil)))))
def s_row_in_1 : M Fl :=
    (ifS (notT (tb1 (cb allD (acons (fz (lcW (seqI (get 1)) (gN 2) yesT (fz (callA F_is_written_number (acons (get 2) anil))) [2])) anil)))) stuckS nxt)
def s_row_in_2 : M Fl :=
    (setS 3 (pl (cb tupleD (acons (fz (lcW (seqI (get 1)) (gN 2) yesT (cb intTD (acons (get 2) anil)) [2])) anil))))
def s_row_in_3 : M Fl :=
    (ifS (notT (tb1 (fz (callA F_is_row (acons (get 3) anil))))) stuckS nxt)
def s_row_in_4 : M Fl :=
    (retS (pl (get 3)))
def f_row_in : M Fl :=
    (thenS s_row_in_0 (thenS s_row_in_1 (thenS s_row_in_2 (thenS s_row_in_3 s_row_in_4))))
def F_row_in : List PyData → Option Wv := runA 1 4 f_row_in
section
variable {P : Program} {w : World} {K : PySem.W.Frag} {mg : Str → Option Value} {base : Heap} {f : Addr} {fd : FuncData}
theorem dk_row_in (F : Fun K "row_in" "row_in" S_row_in f fd) {g_words_in : Addr} {d_words_in : FuncData} (G_words_in : FnOk P w K mg base CX0 1 g_words_in d_words_in P_words_in (spA K F_words_in)) (b_words_in : Binds K d_words_in P_words_in []) (k_words_in : PySem.W.keepIn K (.ref g_words_in) = true) (m_words_in : mg "words_in" = some (.ref g_words_in)) {g_is_written_number : Addr} {d_is_written_number : FuncData} (G_is_written_number : FnOk P w K mg base CX0 1 g_is_written_number d_is_written_number P_is_written_number (spA K F_is_written_number)) (b_is_written_number : Binds K d_is_written_number P_is_written_number []) (k_is_written_number : PySem.W.keepIn K (.ref g_is_written_number) = true) (m_is_written_number : mg "is_written_number" = some (.ref g_is_written_number)) {g_is_row : Addr} {d_is_row : FuncData} (G_is_row : FnOk P w K mg base CX0 2 g_is_row d_is_row P_is_row (spA K F_is_row)) (b_is_row : Binds K d_is_row P_is_row []) (k_is_row : PySem.W.keepIn K (.ref g_is_row) = true) (m_is_row : mg "is_row" = some (.ref g_is_row)) (B : Blt mg) : FnOk P w K mg base CX0 3 f fd P_row_in (spA K F_row_in) := by
  refine F.ok sc_row_in (fun vs H Q E h => lenA h) (fun cdv A outer s H vs Q E hr h => ⟨_, (Evl.pss_cut (ps_set (i := 1) sc_row_in.nd rfl (by first | exact Or.inl rfl | exact Or.inr rfl) (pe_call G_words_in (hr.mono (by decide)) rfl m_words_in k_words_in b_words_in .nil pass0 (pa_cons (pv 0) pa_nil)))
      (Evl.pss_cut (ps_if (pt_not (pt_val (pe_callB (k_all (K := K) rfl rfl) rfl B.all (by decide +kernel) (pa_cons (pe_lc (own := [("word", 2)]) (g := (gName 2)) rfl sc_row_in.nd (k_seq (K := K) rfl (pv 1)) (blkOk_by (own := [("word", 2)]) (N := ["text", "words", "word", "row"]) (sc := defScope S_row_in) (by decide +kernel)) (fun _ _ _ _ _ => by exact (pg_name (i := 2) sc_row_in.nd rfl (by first | exact Or.inl rfl | exact Or.inr rfl))) (fun _ _ _ _ _ => pts_nil) (fun _ _ _ _ _ => (pe_call G_is_written_number (hr.mono (by decide)) rfl m_is_written_number k_is_written_number b_is_written_number .nil pass0 (pa_cons (pv 2) pa_nil)))) pa_nil)))) (pss_one ps_never) pss_nil)
      (Evl.pss_cut (ps_set (i := 3) sc_row_in.nd rfl (by first | exact Or.inl rfl | exact Or.inr rfl) (pe_callTy (k_tup (K := K) rfl) rfl B.tuple (by decide +kernel) (pa_cons (pe_lc (own := [("word", 2)]) (g := (gName 2)) rfl sc_row_in.nd (k_seq (K := K) rfl (pv 1)) (blkOk_by (own := [("word", 2)]) (N := ["text", "words", "word", "row"]) (sc := defScope S_row_in) (by decide +kernel)) (fun _ _ _ _ _ => by exact (pg_name (i := 2) sc_row_in.nd rfl (by first | exact Or.inl rfl | exact Or.inr rfl))) (fun _ _ _ _ _ => pts_nil) (fun _ _ _ _ _ => (pe_callTy call_int_str rfl B.int (by decide +kernel) (pa_cons (pv 2) pa_nil)))) pa_nil)))
      (Evl.pss_cut (ps_if (pt_not (pt_val (pe_call G_is_row (hr.mono (by decide)) rfl m_is_row k_is_row b_is_row .nil pass0 (pa_cons (pv 3) pa_nil)))) (pss_one ps_never) pss_nil)
      (pss_one (ps_ret (pv 3))))))), ?_⟩)
  exact finA (N := N_row_in) (by unfold f_row_in s_row_in_4 s_row_in_3 s_row_in_2 s_row_in_1 s_row_in_0; exact (OkS.cut (OkS.set (fun z => z.elim0) (OkE.w (OkW.e (OkW.call (OkA.cons (OkE.var 0) OkA.nil)))))
      (OkS.cut (OkS.ife (OkT.not (OkT.val (OkE.cb ok_all (OkA.cons (OkW.e (OkW.lc (vs := [2]) (OkI.seq (OkE.var 1)) (OkG.name 2) (by decide) OkT.yes (OkW.e (OkW.call (OkA.cons (OkE.var 2) OkA.nil))))) OkA.nil)))) OkS.stuck OkS.nil)
      (OkS.cut (OkS.set (fun z => z.elim0) (OkE.w (OkE.cb ok_tuple (OkA.cons (OkW.e (OkW.lc (vs := [2]) (OkI.seq (OkE.var 1)) (OkG.name 2) (by decide) OkT.yes (OkE.cb ok_intT (OkA.cons (OkE.var 2) OkA.nil)))) OkA.nil))))
      (OkS.cut (OkS.ife (OkT.not (OkT.val (OkW.e (OkW.call (OkA.cons (OkE.var 3) OkA.nil))))) OkS.stuck OkS.nil)
      (OkS.ret (OkE.w (OkE.var 3)))))))) h
end
def s_pairs_in_0 : M Fl :=
    (setS 1 (pl (fz (lcW (seqI (fz (callA F_words_in (acons (get 0) anil)))) (gN 2) yesT (fz (splitW (get 2) (con (.str "-")))) [2]))))
def s_pairs_in_1 : M Fl :=
    (ifS (notT (tb1 (cb allD (acons (fz (lcW (seqI (get 1)) (gN 3) yesT (fz (callA F_is_written_pair (acons (get 3) anil))) [3])) anil)))) stuckS nxt)
def s_pairs_in_2 : M Fl :=
    (retS (lcW (seqI (get 1)) (gTL (gsC (gN 4) (gsC (gN 5) gsN))) yesT (tupD (acons (cb intTD (acons (get 4) anil)) (acons (cb intTD (acons (get 5) anil)) anil))) [4, 5]))
def f_pairs_in : M Fl :=
    (thenS s_pairs_in_0 (thenS s_pairs_in_1 s_pairs_in_2))
def F_pairs_in : List PyData → Option Wv := runA 1 6 f_pairs_in
section
variable {P : Program} {w : World} {K : PySem.W.Frag} {mg : Str → Option Value} {base : Heap} {f : Addr} {fd : FuncData}
theorem dk_pairs_in (F : Fun K "pairs_in" "pairs_in" S_pairs_in f fd) {g_words_in : Addr} {d_words_in : FuncData} (G_words_in : FnOk P w K mg base CX0 1 g_words_in d_words_in P_words_in (spA K F_words_in)) (b_words_in : Binds K d_words_in P_words_in []) (k_words_in : PySem.W.keepIn K (.ref g_words_in) = true) (m_words_in : mg "words_in" = some (.ref g_words_in)) {g_is_written_pair : Addr} {d_is_written_pair : FuncData} (G_is_written_pair : FnOk P w K mg base CX0 2 g_is_written_pair d_is_written_pair P_is_written_pair (spA K F_is_written_pair)) (b_is_written_pair : Binds K d_is_written_pair P_is_written_pair []) (k_is_written_pair : PySem.W.keepIn K (.ref g_is_written_pair) = true) (m_is_written_pair : mg "is_written_pair" = some (.ref g_is_written_pair)) (B : Blt mg) : FnOk P w K mg base CX0 3 f fd P_pairs_in (spA K F_pairs_in) := by
  refine F.ok sc_pairs_in (fun vs H Q E h => lenA h) (fun cdv A outer s H vs Q E hr h => ⟨_, (Evl.pss_cut (by first | exact (ps_setLc (i := 1) (own := [("word", 2)]) (g := (gName 2)) rfl sc_pairs_in.nd rfl rfl (sw_true rfl rfl rfl (by decide +kernel)) (k_seq (K := K) rfl (pe_call G_words_in (hr.mono (by decide)) rfl m_words_in k_words_in b_words_in .nil pass0 (pa_cons (pv 0) pa_nil))) (blkOk_by (own := [("word", 2)]) (N := ["text", "parts", "word", "part", "left", "right"]) (sc := defScope S_pairs_in) (by decide +kernel)) (fun _ _ _ _ _ => by exact (pg_name (i := 2) sc_pairs_in.nd rfl (by first | exact Or.inl rfl | exact Or.inr rfl))) (fun _ _ _ _ _ => pts_nil) (fun _ _ _ _ _ => (pe_split (pv 2) pe_str))) | exact (ps_set (i := 1) sc_pairs_in.nd rfl (by first | exact Or.inl rfl | exact Or.inr rfl) (pe_lc (own := [("word", 2)]) (g := (gName 2)) rfl sc_pairs_in.nd (k_seq (K := K) rfl (pe_call G_words_in (hr.mono (by decide)) rfl m_words_in k_words_in b_words_in .nil pass0 (pa_cons (pv 0) pa_nil))) (blkOk_by (own := [("word", 2)]) (N := ["text", "parts", "word", "part", "left", "right"]) (sc := defScope S_pairs_in) (by decide +kernel)) (fun _ _ _ _ _ => by exact (pg_name (i := 2) sc_pairs_in.nd rfl (by first | exact Or.inl rfl | exact Or.inr rfl))) (fun _ _ _ _ _ => pts_nil) (fun _ _ _ _ _ => (pe_split (pv 2) pe_str)))))
      (Evl.pss_cut (ps_if (pt_not (pt_val (pe_callB (k_all (K := K) rfl rfl) rfl B.all (by decide +kernel) (pa_cons (pe_lc (own := [("part", 3)]) (g := (gName 3)) rfl sc_pairs_in.nd (k_seq (K := K) rfl (pv 1)) (blkOk_by (own := [("part", 3)]) (N := ["text", "parts", "word", "part", "left", "right"]) (sc := defScope S_pairs_in) (by decide +kernel)) (fun _ _ _ _ _ => by exact (pg_name (i := 3) sc_pairs_in.nd rfl (by first | exact Or.inl rfl | exact Or.inr rfl))) (fun _ _ _ _ _ => pts_nil) (fun _ _ _ _ _ => (pe_call G_is_written_pair (hr.mono (by decide)) rfl m_is_written_pair k_is_written_pair b_is_written_pair .nil pass0 (pa_cons (pv 3) pa_nil)))) pa_nil)))) (pss_one ps_never) pss_nil)
      (pss_one (ps_ret (pe_lc (own := [("left", 4), ("right", 5)]) (g := (gUnE K 2 (gCons (gName 4) (gCons (gName 5) gNil)))) rfl sc_pairs_in.nd (k_seq (K := K) rfl (pv 1)) (blkOk_by (own := [("left", 4), ("right", 5)]) (N := ["text", "parts", "word", "part", "left", "right"]) (sc := defScope S_pairs_in) (by decide +kernel)) (fun _ _ _ _ _ => by exact (pg_unE rfl (pgs_cons (pg_name (i := 4) sc_pairs_in.nd rfl (by first | exact Or.inl rfl | exact Or.inr rfl)) (pgs_cons (pg_name (i := 5) sc_pairs_in.nd rfl (by first | exact Or.inl rfl | exact Or.inr rfl)) pgs_nil)))) (fun _ _ _ _ _ => pts_nil) (fun _ _ _ _ _ => (pe_tupB (pa_cons (pe_callTy call_int_str rfl B.int (by decide +kernel) (pa_cons (pv 4) pa_nil)) (pa_cons (pe_callTy call_int_str rfl B.int (by decide +kernel) (pa_cons (pv 5) pa_nil)) pa_nil))))))))), ?_⟩)
  exact finA (N := N_pairs_in) (by unfold f_pairs_in s_pairs_in_2 s_pairs_in_1 s_pairs_in_0; exact (OkS.cut (OkS.set (fun z => z.elim0) (OkE.w (OkW.e (OkW.lc (vs := [2]) (OkI.seq (OkW.e (OkW.call (OkA.cons (OkE.var 0) OkA.nil)))) (OkG.name 2) (by decide) OkT.yes (OkW.e (OkW.split (OkE.var 2) (OkE.con fun _ => .str _)))))))
      (OkS.cut (OkS.ife (OkT.not (OkT.val (OkE.cb ok_all (OkA.cons (OkW.e (OkW.lc (vs := [3]) (OkI.seq (OkE.var 1)) (OkG.name 3) (by decide) OkT.yes (OkW.e (OkW.call (OkA.cons (OkE.var 3) OkA.nil))))) OkA.nil)))) OkS.stuck OkS.nil)
      (OkS.ret (OkW.lc (vs := [4, 5]) (OkI.seq (OkE.var 1)) (OkG.tupL (OkGs.cons (OkG.name 4) (OkGs.cons (OkG.name 5) OkGs.nil))) (by decide) OkT.yes (OkE.tup (OkA.cons (OkE.cb ok_intT (OkA.cons (OkE.var 4) OkA.nil)) (OkA.cons (OkE.cb ok_intT (OkA.cons (OkE.var 5) OkA.nil)) OkA.nil)))))))) h
end
def s_row_in_x_0 (c : Ad) : M Fl :=
    (setS 1 (pl (fz (callA F_words_in (acons (get 0) anil)))))
def s_row_in_x_1 (c : Ad) : M Fl :=
    (ifS (notT (tb1 (cb allD (acons (fz (lcW (seqI (get 1)) (gN 2) yesT (fz (callA F_is_written_number (acons (get 2) anil))) [2])) anil)))) (raiseS c.BadText "text" (acons (get 0) anil)) nxt)
def s_row_in_x_2 (c : Ad) : M Fl :=
    (setS 3 (pl (cb tupleD (acons (fz (lcW (seqI (get 1)) (gN 2) yesT (cb intTD (acons (get 2) anil)) [2])) anil))))
def s_row_in_x_3 (c : Ad) : M Fl :=
    (ifS (notT (tb1 (fz (callA F_is_row (acons (get 3) anil))))) (raiseS c.BadText "text" (acons (get 0) anil)) nxt)
def s_row_in_x_4 (c : Ad) : M Fl :=
    (retS (pl (get 3)))
def f_row_in_x (c : Ad) : M Fl :=
    (thenS (s_row_in_x_0 c) (thenS (s_row_in_x_1 c) (thenS (s_row_in_x_2 c) (thenS (s_row_in_x_3 c) (s_row_in_x_4 c)))))
def F_row_in_x (c : Ad) : List PyData → Option Xo := runX 1 4 (f_row_in_x c)
section
variable {P : Program} {w : World} {K : PySem.W.Frag} {mg : Str → Option Value} {base : Heap} {f : Addr} {fd : FuncData} {c : Ad}
theorem dk_row_in_x (F : Fun K "row_in" "row_in" S_row_in f fd) {g_words_in : Addr} {d_words_in : FuncData} (G_words_in : FnOk P w K mg base CX0 1 g_words_in d_words_in P_words_in (spA K F_words_in)) (b_words_in : Binds K d_words_in P_words_in []) (k_words_in : PySem.W.keepIn K (.ref g_words_in) = true) (m_words_in : mg "words_in" = some (.ref g_words_in)) {g_is_written_number : Addr} {d_is_written_number : FuncData} (G_is_written_number : FnOk P w K mg base CX0 1 g_is_written_number d_is_written_number P_is_written_number (spA K F_is_written_number)) (b_is_written_number : Binds K d_is_written_number P_is_written_number []) (k_is_written_number : PySem.W.keepIn K (.ref g_is_written_number) = true) (m_is_written_number : mg "is_written_number" = some (.ref g_is_written_number)) {g_is_row : Addr} {d_is_row : FuncData} (G_is_row : FnOk P w K mg base CX0 2 g_is_row d_is_row P_is_row (spA K F_is_row)) (b_is_row : Binds K d_is_row P_is_row []) (k_is_row : PySem.W.keepIn K (.ref g_is_row) = true) (m_is_row : mg "is_row" = some (.ref g_is_row)) (B : Blt mg) (M : Mks P w K mg base c) : FnOk P w K mg base (L2.CX P w) 3 f fd P_row_in (spX K (F_row_in_x c)) := by
  refine F.okX sc_row_in (fun vs H Q E h => lenX h) (fun cdv A outer s H vs Q E hr h => ⟨_, (Evl.pss_cut (ps_set (i := 1) sc_row_in.nd rfl (by first | exact Or.inl rfl | exact Or.inr rfl) (pe_call G_words_in (hr.mono (by decide)) rfl m_words_in k_words_in b_words_in .nil pass0 (pa_cons (pv 0) pa_nil)))
      (Evl.pss_cut (ps_if (pt_not (pt_val (pe_callB (k_all (K := K) rfl rfl) rfl B.all (by decide +kernel) (pa_cons (pe_lc (own := [("word", 2)]) (g := (gName 2)) rfl sc_row_in.nd (k_seq (K := K) rfl (pv 1)) (blkOk_by (own := [("word", 2)]) (N := ["text", "words", "word", "row"]) (sc := defScope S_row_in) (by decide +kernel)) (fun _ _ _ _ _ => by exact (pg_name (i := 2) sc_row_in.nd rfl (by first | exact Or.inl rfl | exact Or.inr rfl))) (fun _ _ _ _ _ => pts_nil) (fun _ _ _ _ _ => (pe_call G_is_written_number (hr.mono (by decide)) rfl m_is_written_number k_is_written_number b_is_written_number .nil pass0 (pa_cons (pv 2) pa_nil)))) pa_nil)))) (pss_one (ps_raise rfl (takes_of rfl rfl rfl rfl) (pmk_ex M.BadText (hr.mono (by decide)) rfl (pa_cons (pv 0) pa_nil)))) pss_nil)
      (Evl.pss_cut (ps_set (i := 3) sc_row_in.nd rfl (by first | exact Or.inl rfl | exact Or.inr rfl) (pe_callTy (k_tup (K := K) rfl) rfl B.tuple (by decide +kernel) (pa_cons (pe_lc (own := [("word", 2)]) (g := (gName 2)) rfl sc_row_in.nd (k_seq (K := K) rfl (pv 1)) (blkOk_by (own := [("word", 2)]) (N := ["text", "words", "word", "row"]) (sc := defScope S_row_in) (by decide +kernel)) (fun _ _ _ _ _ => by exact (pg_name (i := 2) sc_row_in.nd rfl (by first | exact Or.inl rfl | exact Or.inr rfl))) (fun _ _ _ _ _ => pts_nil) (fun _ _ _ _ _ => (pe_callTy call_int_str rfl B.int (by decide +kernel) (pa_cons (pv 2) pa_nil)))) pa_nil)))
      (Evl.pss_cut (ps_if (pt_not (pt_val (pe_call G_is_row (hr.mono (by decide)) rfl m_is_row k_is_row b_is_row .nil pass0 (pa_cons (pv 3) pa_nil)))) (pss_one (ps_raise rfl (takes_of rfl rfl rfl rfl) (pmk_ex M.BadText (hr.mono (by decide)) rfl (pa_cons (pv 0) pa_nil)))) pss_nil)
      (pss_one (ps_ret (pv 3))))))), ?_⟩)
  exact finX (N := N_row_in) (by unfold f_row_in_x s_row_in_x_4 s_row_in_x_3 s_row_in_x_2 s_row_in_x_1 s_row_in_x_0; exact (OkS.cut (OkS.set (fun z => z.elim0) (OkE.w (OkW.e (OkW.call (OkA.cons (OkE.var 0) OkA.nil)))))
      (OkS.cut (OkS.ife (OkT.not (OkT.val (OkE.cb ok_all (OkA.cons (OkW.e (OkW.lc (vs := [2]) (OkI.seq (OkE.var 1)) (OkG.name 2) (by decide) OkT.yes (OkW.e (OkW.call (OkA.cons (OkE.var 2) OkA.nil))))) OkA.nil)))) (OkS.raise1 (by decide) M.BadText.cl M.BadText.no (OkA.cons (OkE.var 0) OkA.nil)) OkS.nil)
      (OkS.cut (OkS.set (fun z => z.elim0) (OkE.w (OkE.cb ok_tuple (OkA.cons (OkW.e (OkW.lc (vs := [2]) (OkI.seq (OkE.var 1)) (OkG.name 2) (by decide) OkT.yes (OkE.cb ok_intT (OkA.cons (OkE.var 2) OkA.nil)))) OkA.nil))))
      (OkS.cut (OkS.ife (OkT.not (OkT.val (OkW.e (OkW.call (OkA.cons (OkE.var 3) OkA.nil))))) (OkS.raise1 (by decide) M.BadText.cl M.BadText.no (OkA.cons (OkE.var 0) OkA.nil)) OkS.nil)
      (OkS.ret (OkE.w (OkE.var 3)))))))) h
end
def s_pairs_in_x_0 (c : Ad) : M Fl :=
    (setS 1 (pl (fz (lcW (seqI (fz (callA F_words_in (acons (get 0) anil)))) (gN 2) yesT (fz (splitW (get 2) (con (.str "-")))) [2]))))
def s_pairs_in_x_1 (c : Ad) : M Fl :=
    (ifS (notT (tb1 (cb allD (acons (fz (lcW (seqI (get 1)) (gN 3) yesT (fz (callA F_is_written_pair (acons (get 3) anil))) [3])) anil)))) (raiseS c.BadText "text" (acons (get 0) anil)) nxt)
def s_pairs_in_x_2 (c : Ad) : M Fl :=
    (retS (pl (fz (lcW (seqI (get 1)) (gTL (gsC (gN 4) (gsC (gN 5) gsN))) yesT (tupD (acons (cb intTD (acons (get 4) anil)) (acons (cb intTD (acons (get 5) anil)) anil))) [4, 5]))))
def f_pairs_in_x (c : Ad) : M Fl :=
    (thenS (s_pairs_in_x_0 c) (thenS (s_pairs_in_x_1 c) (s_pairs_in_x_2 c)))
def F_pairs_in_x (c : Ad) : List PyData → Option Xo := runX 1 6 (f_pairs_in_x c)
section
variable {P : Program} {w : World} {K : PySem.W.Frag} {mg : Str → Option Value} {base : Heap} {f : Addr} {fd : FuncData} {c : Ad}
theorem dk_pairs_in_x (F : Fun K "pairs_in" "pairs_in" S_pairs_in f fd) {g_words_in : Addr} {d_words_in : FuncData} (G_words_in : FnOk P w K mg base CX0 1 g_words_in d_words_in P_words_in (spA K F_words_in)) (b_words_in : Binds K d_words_in P_words_in []) (k_words_in : PySem.W.keepIn K (.ref g_words_in) = true) (m_words_in : mg "words_in" = some (.ref g_words_in)) {g_is_written_pair : Addr} {d_is_written_pair : FuncData} (G_is_written_pair : FnOk P w K mg base CX0 2 g_is_written_pair d_is_written_pair P_is_written_pair (spA K F_is_written_pair)) (b_is_written_pair : Binds K d_is_written_pair P_is_written_pair []) (k_is_written_pair : PySem.W.keepIn K (.ref g_is_written_pair) = true) (m_is_written_pair : mg "is_written_pair" = some (.ref g_is_written_pair)) (B : Blt mg) (M : Mks P w K mg base c) : FnOk P w K mg base (L2.CX P w) 3 f fd P_pairs_in (spX K (F_pairs_in_x c)) := by
  refine F.okX sc_pairs_in (fun vs H Q E h => lenX h) (fun cdv A outer s H vs Q E hr h => ⟨_, (Evl.pss_cut (by first | exact (ps_setLc (i := 1) (own := [("word", 2)]) (g := (gName 2)) rfl sc_pairs_in.nd rfl rfl (sw_true rfl rfl rfl (by decide +kernel)) (k_seq (K := K) rfl (pe_call G_words_in (hr.mono (by decide)) rfl m_words_in k_words_in b_words_in .nil pass0 (pa_cons (pv 0) pa_nil))) (blkOk_by (own := [("word", 2)]) (N := ["text", "parts", "word", "part", "left", "right"]) (sc := defScope S_pairs_in) (by decide +kernel)) (fun _ _ _ _ _ => by exact (pg_name (i := 2) sc_pairs_in.nd rfl (by first | exact Or.inl rfl | exact Or.inr rfl))) (fun _ _ _ _ _ => pts_nil) (fun _ _ _ _ _ => (pe_split (pv 2) pe_str))) | exact (ps_set (i := 1) sc_pairs_in.nd rfl (by first | exact Or.inl rfl | exact Or.inr rfl) (pe_lc (own := [("word", 2)]) (g := (gName 2)) rfl sc_pairs_in.nd (k_seq (K := K) rfl (pe_call G_words_in (hr.mono (by decide)) rfl m_words_in k_words_in b_words_in .nil pass0 (pa_cons (pv 0) pa_nil))) (blkOk_by (own := [("word", 2)]) (N := ["text", "parts", "word", "part", "left", "right"]) (sc := defScope S_pairs_in) (by decide +kernel)) (fun _ _ _ _ _ => by exact (pg_name (i := 2) sc_pairs_in.nd rfl (by first | exact Or.inl rfl | exact Or.inr rfl))) (fun _ _ _ _ _ => pts_nil) (fun _ _ _ _ _ => (pe_split (pv 2) pe_str)))))
      (Evl.pss_cut (ps_if (pt_not (pt_val (pe_callB (k_all (K := K) rfl rfl) rfl B.all (by decide +kernel) (pa_cons (pe_lc (own := [("part", 3)]) (g := (gName 3)) rfl sc_pairs_in.nd (k_seq (K := K) rfl (pv 1)) (blkOk_by (own := [("part", 3)]) (N := ["text", "parts", "word", "part", "left", "right"]) (sc := defScope S_pairs_in) (by decide +kernel)) (fun _ _ _ _ _ => by exact (pg_name (i := 3) sc_pairs_in.nd rfl (by first | exact Or.inl rfl | exact Or.inr rfl))) (fun _ _ _ _ _ => pts_nil) (fun _ _ _ _ _ => (pe_call G_is_written_pair (hr.mono (by decide)) rfl m_is_written_pair k_is_written_pair b_is_written_pair .nil pass0 (pa_cons (pv 3) pa_nil)))) pa_nil)))) (pss_one (ps_raise rfl (takes_of rfl rfl rfl rfl) (pmk_ex M.BadText (hr.mono (by decide)) rfl (pa_cons (pv 0) pa_nil)))) pss_nil)
      (pss_one (ps_ret (pe_lc (own := [("left", 4), ("right", 5)]) (g := (gUnE K 2 (gCons (gName 4) (gCons (gName 5) gNil)))) rfl sc_pairs_in.nd (k_seq (K := K) rfl (pv 1)) (blkOk_by (own := [("left", 4), ("right", 5)]) (N := ["text", "parts", "word", "part", "left", "right"]) (sc := defScope S_pairs_in) (by decide +kernel)) (fun _ _ _ _ _ => by exact (pg_unE rfl (pgs_cons (pg_name (i := 4) sc_pairs_in.nd rfl (by first | exact Or.inl rfl | exact Or.inr rfl)) (pgs_cons (pg_name (i := 5) sc_pairs_in.nd rfl (by first | exact Or.inl rfl | exact Or.inr rfl)) pgs_nil)))) (fun _ _ _ _ _ => pts_nil) (fun _ _ _ _ _ => (pe_tupB (pa_cons (pe_callTy call_int_str rfl B.int (by decide +kernel) (pa_cons (pv 4) pa_nil)) (pa_cons (pe_callTy call_int_str rfl B.int (by decide +kernel) (pa_cons (pv 5) pa_nil)) pa_nil))))))))), ?_⟩)
  exact finX (N := N_pairs_in) (by unfold f_pairs_in_x s_pairs_in_x_2 s_pairs_in_x_1 s_pairs_in_x_0; exact (OkS.cut (OkS.set (fun z => z.elim0) (OkE.w (OkW.e (OkW.lc (vs := [2]) (OkI.seq (OkW.e (OkW.call (OkA.cons (OkE.var 0) OkA.nil)))) (OkG.name 2) (by decide) OkT.yes (OkW.e (OkW.split (OkE.var 2) (OkE.con fun _ => .str _)))))))
      (OkS.cut (OkS.ife (OkT.not (OkT.val (OkE.cb ok_all (OkA.cons (OkW.e (OkW.lc (vs := [3]) (OkI.seq (OkE.var 1)) (OkG.name 3) (by decide) OkT.yes (OkW.e (OkW.call (OkA.cons (OkE.var 3) OkA.nil))))) OkA.nil)))) (OkS.raise1 (by decide) M.BadText.cl M.BadText.no (OkA.cons (OkE.var 0) OkA.nil)) OkS.nil)
      (OkS.ret (OkE.w (OkW.e (OkW.lc (vs := [4, 5]) (OkI.seq (OkE.var 1)) (OkG.tupL (OkGs.cons (OkG.name 4) (OkGs.cons (OkG.name 5) OkGs.nil))) (by decide) OkT.yes (OkE.tup (OkA.cons (OkE.cb ok_intT (OkA.cons (OkE.var 4) OkA.nil)) (OkA.cons (OkE.cb ok_intT (OkA.cons (OkE.var 5) OkA.nil)) OkA.nil)))))))))) h
end
def s_digits_0 : M Fl :=
    (ifS (orT (notT (tb1 (chainE leD leD (con (.int 1)) (cb lenTD (acons (get 0) anil)) (con (.int 10))))) (notT (tb1 (cb allD (acons (fz (lcW (strI (get 0)) (gN 1) yesT (op2 inSgD (get 1) (con (.str "0123456789"))) [1])) anil))))) (retS (pl (con .none))) nxt)
def s_digits_1 : M Fl :=
    (retS (pl (ifE (orT (tb1 (op2 (eqA false) (get 0) (con (.str "0")))) (tb1 (op2 (eqA true) (op2 ixTD (get 0) (con (.int 0))) (con (.str "0"))))) (cb intTD (acons (get 0) anil)) (con .none))))
def f_digits : M Fl :=
    (thenS s_digits_0 s_digits_1)
def F_digits : List PyData → Option Wv := runA 1 2 f_digits
section
variable {P : Program} {w : World} {K : PySem.W.Frag} {mg : Str → Option Value} {base : Heap} {f : Addr} {fd : FuncData}
theorem dk_digits (F : Fun K "_law_digits" "_law_digits" S_digits f fd)  (B : Blt mg) : FnOk P w K mg base CX0 1 f fd P_digits (spA K F_digits) := by
  refine F.ok sc_digits (fun vs H Q E h => lenA h) (fun cdv A outer s H vs Q E hr h => ⟨_, (Evl.pss_cut (ps_if (PW.pt (pw_or (pt_not (pt_chain op_le op_le pe_int (pe_callB call_len_str rfl B.len PySem.boot_len (pa_cons (pv 0) pa_nil)) pe_int)) (pw_or1 (pt_not (pt_val (pe_callB (k_all (K := K) rfl rfl) rfl B.all (by decide +kernel) (pa_cons (pe_lc (own := [("_law_sign", 1)]) (g := (gName 1)) rfl sc_digits.nd (pi_str (pv 0)) (blkOk_by (own := [("_law_sign", 1)]) (N := ["_law_word", "_law_sign"]) (sc := defScope S_digits) (by decide +kernel)) (fun _ _ _ _ _ => by exact (pg_name (i := 1) sc_digits.nd rfl (by first | exact Or.inl rfl | exact Or.inr rfl))) (fun _ _ _ _ _ => pts_nil) (fun _ _ _ _ _ => (pe_cmpR op_inS (pv 1) pe_str (by rfl)))) pa_nil))))))) (pss_one (ps_ret pe_non)) pss_nil)
      (pss_one (ps_ret (pe_ifExp (PW.pt (pw_or (pt_cmpR op_eq (pv 0) pe_str (nomark _)) (pw_or1 (pt_cmpR op_ne (pe_ix ix_str (pv 0) pe_int (fun _ _ => rfl)) pe_str (nomark _))))) (pe_callTy call_int_str rfl B.int (by decide +kernel) (pa_cons (pv 0) pa_nil)) pe_non)))), ?_⟩)
  exact finA (N := N_digits) (by unfold f_digits s_digits_1 s_digits_0; exact (OkS.cut (OkS.ife (OkT.or (OkT.not (OkT.test (OkE.chain ok_le ok_le (OkE.con fun _ => .int _) (OkE.cb ok_lenTx (OkA.cons (OkE.var 0) OkA.nil)) (OkE.con fun _ => .int _)))) (OkT.not (OkT.val (OkE.cb ok_all (OkA.cons (OkW.e (OkW.lc (vs := [1]) (OkI.str (OkE.var 0)) (OkG.name 1) (by decide) OkT.yes (OkE.op ok_inSg (OkE.var 1) (OkE.con fun _ => .str _)))) OkA.nil))))) (OkS.ret (OkE.w (OkE.con fun _ => .non))) OkS.nil)
      (OkS.ret (OkE.w (OkE.ife (OkT.or (OkT.test (OkE.op ok_eq (OkE.var 0) (OkE.con fun _ => .str _))) (OkT.test (OkE.op ok_ne (OkE.op ok_ixT (OkE.var 0) (OkE.con fun _ => .int _)) (OkE.con fun _ => .str _)))) (OkE.cb ok_intT (OkA.cons (OkE.var 0) OkA.nil)) (OkE.con fun _ => .non)))))) h
end
def s_figures_0 : M Fl :=
    (setS 1 (pl (fz (lcW (seqI (fz (splitW (get 0) (con (.str " "))))) (gN 2) yesT (fz (callA F_digits (acons (get 2) anil))) [2]))))
def s_figures_1 : M Fl :=
    (retS (pl (ifE (tb1 (op2 (inF false) (con .none) (get 1))) (con .none) (get 1))))
def f_figures : M Fl :=
    (thenS s_figures_0 s_figures_1)
def F_figures : List PyData → Option Wv := runA 1 3 f_figures
section
variable {P : Program} {w : World} {K : PySem.W.Frag} {mg : Str → Option Value} {base : Heap} {f : Addr} {fd : FuncData}
theorem dk_figures (F : Fun K "_law_figures" "_law_figures" S_figures f fd) {g_digits : Addr} {d_digits : FuncData} (G_digits : FnOk P w K mg base CX0 1 g_digits d_digits P_digits (spA K F_digits)) (b_digits : Binds K d_digits P_digits []) (k_digits : PySem.W.keepIn K (.ref g_digits) = true) (m_digits : mg "_law_digits" = some (.ref g_digits)) (B : Blt mg) : FnOk P w K mg base CX0 2 f fd P_figures (spA K F_figures) := by
  refine F.ok sc_figures (fun vs H Q E h => lenA h) (fun cdv A outer s H vs Q E hr h => ⟨_, (Evl.pss_cut (by first | exact (ps_setLc (i := 1) (own := [("_law_word", 2)]) (g := (gName 2)) rfl sc_figures.nd rfl rfl (sw_true rfl rfl rfl (by decide +kernel)) (k_seq (K := K) rfl (pe_split (pv 0) pe_str)) (blkOk_by (own := [("_law_word", 2)]) (N := ["_law_words", "_law_found", "_law_word"]) (sc := defScope S_figures) (by decide +kernel)) (fun _ _ _ _ _ => by exact (pg_name (i := 2) sc_figures.nd rfl (by first | exact Or.inl rfl | exact Or.inr rfl))) (fun _ _ _ _ _ => pts_nil) (fun _ _ _ _ _ => (pe_call G_digits (hr.mono (by decide)) rfl m_digits k_digits b_digits .nil pass0 (pa_cons (pv 2) pa_nil)))) | exact (ps_set (i := 1) sc_figures.nd rfl (by first | exact Or.inl rfl | exact Or.inr rfl) (pe_lc (own := [("_law_word", 2)]) (g := (gName 2)) rfl sc_figures.nd (k_seq (K := K) rfl (pe_split (pv 0) pe_str)) (blkOk_by (own := [("_law_word", 2)]) (N := ["_law_words", "_law_found", "_law_word"]) (sc := defScope S_figures) (by decide +kernel)) (fun _ _ _ _ _ => by exact (pg_name (i := 2) sc_figures.nd rfl (by first | exact Or.inl rfl | exact Or.inr rfl))) (fun _ _ _ _ _ => pts_nil) (fun _ _ _ _ _ => (pe_call G_digits (hr.mono (by decide)) rfl m_digits k_digits b_digits .nil pass0 (pa_cons (pv 2) pa_nil))))))
      (pss_one (ps_ret (pe_ifExp (pt_cmpR (k_in (K := K) rfl) pe_non (pv 1) (by rfl)) pe_non (pv 1))))), ?_⟩)
  exact finA (N := N_figures) (by unfold f_figures s_figures_1 s_figures_0; exact (OkS.cut (OkS.set (fun z => z.elim0) (OkE.w (OkW.e (OkW.lc (vs := [2]) (OkI.seq (OkW.e (OkW.split (OkE.var 0) (OkE.con fun _ => .str _)))) (OkG.name 2) (by decide) OkT.yes (OkW.e (OkW.call (OkA.cons (OkE.var 2) OkA.nil)))))))
      (OkS.ret (OkE.w (OkE.ife (OkT.test (OkE.op ok_inF (OkE.con fun _ => .non) (OkE.var 1))) (OkE.con fun _ => .non) (OkE.var 1)))))) h
end
def f_sum_text : M Fl :=
    (retS (pl (ifE (tb1 (op2 gtD (cb lenD (acons (get 0) anil)) (con (.int 0)))) (txM1 joinTD (con (.str " ")) (fz (lcW (seqI (get 0)) (gN 1) yesT (cb strD (acons (get 1) anil)) [1]))) (con (.str "-")))))
def F_sum_text : List PyData → Option Wv := runA 1 2 f_sum_text
section
variable {P : Program} {w : World} {K : PySem.W.Frag} {mg : Str → Option Value} {base : Heap} {f : Addr} {fd : FuncData}
theorem dk_sum_text (F : Fun K "_law_sum_text" "_law_sum_text" S_sum_text f fd)  (B : Blt mg) : FnOk P w K mg base CX0 1 f fd P_sum_text (spA K F_sum_text) := by
  refine F.ok sc_sum_text (fun vs H Q E h => lenA h) (fun cdv A outer s H vs Q E hr h => ⟨_, (pss_one (ps_ret (pe_ifExp (pt_cmpR op_gt (pe_callB (k_len (K := K) rfl) rfl B.len PySem.boot_len (pa_cons (pv 0) pa_nil)) pe_int (nomark _)) (k_joinT (K := K) rfl pe_str (pe_lc (own := [("_law_part", 1)]) (g := (gName 1)) rfl sc_sum_text.nd (k_seq (K := K) rfl (pv 0)) (blkOk_by (own := [("_law_part", 1)]) (N := ["_law_some", "_law_part"]) (sc := defScope S_sum_text) (by decide +kernel)) (fun _ _ _ _ _ => by exact (pg_name (i := 1) sc_sum_text.nd rfl (by first | exact Or.inl rfl | exact Or.inr rfl))) (fun _ _ _ _ _ => pts_nil) (fun _ _ _ _ _ => (pe_callTy call_str_int rfl B.str (by decide +kernel) (pa_cons (pv 1) pa_nil))))) pe_str))), ?_⟩)
  exact finA (N := N_sum_text) (by unfold f_sum_text; exact (OkS.ret (OkE.w (OkE.ife (OkT.test (OkE.op ok_gt (OkE.cb ok_len (OkA.cons (OkE.var 0) OkA.nil)) (OkE.con fun _ => .int _))) (OkE.txM1 ok_join (OkE.con fun _ => .str _) (OkW.e (OkW.lc (vs := [1]) (OkI.seq (OkE.var 0)) (OkG.name 1) (by decide) OkT.yes (OkE.cb ok_str (OkA.cons (OkE.var 1) OkA.nil))))) (OkE.con fun _ => .str _))))) h
end
def f_tour_text : M Fl :=
    (retS (pl (ifE (tb1 (op2 gtD (cb lenD (acons (get 0) anil)) (con (.int 0)))) (txM1 joinTD (con (.str " ")) (fz (lcW (seqI (get 0)) (gT (gsC (gN 1) (gsC (gN 2) gsN))) yesT (op2 catSD (op2 catSD (cb strD (acons (get 1) anil)) (con (.str "-"))) (cb strD (acons (get 2) anil))) [1, 2]))) (con (.str "-")))))
def F_tour_text : List PyData → Option Wv := runA 1 3 f_tour_text
section
variable {P : Program} {w : World} {K : PySem.W.Frag} {mg : Str → Option Value} {base : Heap} {f : Addr} {fd : FuncData}
theorem dk_tour_text (F : Fun K "_law_tour_text" "_law_tour_text" S_tour_text f fd)  (B : Blt mg) : FnOk P w K mg base CX0 1 f fd P_tour_text (spA K F_tour_text) := by
  refine F.ok sc_tour_text (fun vs H Q E h => lenA h) (fun cdv A outer s H vs Q E hr h => ⟨_, (pss_one (ps_ret (pe_ifExp (pt_cmpR op_gt (pe_callB (k_len (K := K) rfl) rfl B.len PySem.boot_len (pa_cons (pv 0) pa_nil)) pe_int (nomark _)) (k_joinT (K := K) rfl pe_str (pe_lc (own := [("_law_i", 1), ("_law_j", 2)]) (g := (gTup K 2 (gCons (gName 1) (gCons (gName 2) gNil)))) rfl sc_tour_text.nd (k_seq (K := K) rfl (pv 0)) (blkOk_by (own := [("_law_i", 1), ("_law_j", 2)]) (N := ["_law_tour", "_law_i", "_law_j"]) (sc := defScope S_tour_text) (by decide +kernel)) (fun _ _ _ _ _ => by exact (pg_tup rfl (pgs_cons (pg_name (i := 1) sc_tour_text.nd rfl (by first | exact Or.inl rfl | exact Or.inr rfl)) (pgs_cons (pg_name (i := 2) sc_tour_text.nd rfl (by first | exact Or.inl rfl | exact Or.inr rfl)) pgs_nil)))) (fun _ _ _ _ _ => pts_nil) (fun _ _ _ _ _ => (pe_op op_add_str (pe_op op_add_str (pe_callTy call_str_int rfl B.str (by decide +kernel) (pa_cons (pv 1) pa_nil)) pe_str) (pe_callTy call_str_int rfl B.str (by decide +kernel) (pa_cons (pv 2) pa_nil)))))) pe_str))), ?_⟩)
  exact finA (N := N_tour_text) (by unfold f_tour_text; exact (OkS.ret (OkE.w (OkE.ife (OkT.test (OkE.op ok_gt (OkE.cb ok_len (OkA.cons (OkE.var 0) OkA.nil)) (OkE.con fun _ => .int _))) (OkE.txM1 ok_join (OkE.con fun _ => .str _) (OkW.e (OkW.lc (vs := [1, 2]) (OkI.seq (OkE.var 0)) (OkG.tup (OkGs.cons (OkG.name 1) (OkGs.cons (OkG.name 2) OkGs.nil))) (by decide) OkT.yes (OkE.op ok_catS (OkE.op ok_catS (OkE.cb ok_str (OkA.cons (OkE.var 1) OkA.nil)) (OkE.con fun _ => .str _)) (OkE.cb ok_str (OkA.cons (OkE.var 2) OkA.nil)))))) (OkE.con fun _ => .str _))))) h
end
def s_crowd_in_0 : M Fl :=
    (setS 1 (pl (ifE (tb1 (op2 (eqA false) (get 0) (con (.str "-")))) (lstD anil) (fz (callA F_figures (acons (get 0) anil))))))
def s_crowd_in_1 : M Fl :=
    (ifS (orT (tb1 (isNE false (get 1))) (orT (tb1 (op2 (inF false) (con (.int 0)) (get 1))) (tb1 (op2 (eqA true) (op1 lenSetGD (get 1)) (cb lenD (acons (get 1) anil)))))) (retS (pl (con .none))) nxt)
def s_crowd_in_2 : M Fl :=
    (retS (pl (cb tupleD (acons (get 1) anil))))
def f_crowd_in : M Fl :=
    (thenS s_crowd_in_0 (thenS s_crowd_in_1 s_crowd_in_2))
def F_crowd_in : List PyData → Option Wv := runA 1 2 f_crowd_in
section
variable {P : Program} {w : World} {K : PySem.W.Frag} {mg : Str → Option Value} {base : Heap} {f : Addr} {fd : FuncData}
theorem dk_crowd_in (F : Fun K "_law_crowd_in" "_law_crowd_in" S_crowd_in f fd) {g_figures : Addr} {d_figures : FuncData} (G_figures : FnOk P w K mg base CX0 2 g_figures d_figures P_figures (spA K F_figures)) (b_figures : Binds K d_figures P_figures []) (k_figures : PySem.W.keepIn K (.ref g_figures) = true) (m_figures : mg "_law_figures" = some (.ref g_figures)) (B : Blt mg) : FnOk P w K mg base CX0 3 f fd P_crowd_in (spA K F_crowd_in) := by
  refine F.ok sc_crowd_in (fun vs H Q E h => lenA h) (fun cdv A outer s H vs Q E hr h => ⟨_, (Evl.pss_cut (ps_set (i := 1) sc_crowd_in.nd rfl (by first | exact Or.inl rfl | exact Or.inr rfl) (pe_ifExp (pt_cmpR op_eq (pv 0) pe_str (nomark _)) (pe_lst pa_nil) (pe_call G_figures (hr.mono (by decide)) rfl m_figures k_figures b_figures .nil pass0 (pa_cons (pv 0) pa_nil))))
      (Evl.pss_cut (ps_if (PW.pt (pw_or (pt_cmpR op_isN (pv 1) pe_non (nomark _)) (pw_or (pt_cmpR (k_in (K := K) rfl) pe_int (pv 1) (by rfl)) (pw_or1 (pt_cmpR op_ne (k_lenSetG (K := K) rfl rfl rfl B.len rfl B.set (pv 1)) (pe_callB (k_len (K := K) rfl) rfl B.len PySem.boot_len (pa_cons (pv 1) pa_nil)) (nomark _)))))) (pss_one (ps_ret pe_non)) pss_nil)
      (pss_one (ps_ret (pe_callTy (k_tup (K := K) rfl) rfl B.tuple (by decide +kernel) (pa_cons (pv 1) pa_nil)))))), ?_⟩)
  exact finA (N := N_crowd_in) (by unfold f_crowd_in s_crowd_in_2 s_crowd_in_1 s_crowd_in_0; exact (OkS.cut (OkS.set (fun z => z.elim0) (OkE.w (OkE.ife (OkT.test (OkE.op ok_eq (OkE.var 0) (OkE.con fun _ => .str _))) (OkE.lst OkA.nil) (OkW.e (OkW.call (OkA.cons (OkE.var 0) OkA.nil))))))
      (OkS.cut (OkS.ife (OkT.or (OkT.test (OkE.isN (OkE.var 1))) (OkT.or (OkT.test (OkE.op ok_inF (OkE.con fun _ => .int _) (OkE.var 1))) (OkT.test (OkE.op ok_ne (OkE.lenSetG (OkE.var 1)) (OkE.cb ok_len (OkA.cons (OkE.var 1) OkA.nil)))))) (OkS.ret (OkE.w (OkE.con fun _ => .non))) OkS.nil)
      (OkS.ret (OkE.w (OkE.cb ok_tuple (OkA.cons (OkE.var 1) OkA.nil))))))) h
end
def s_tour_in_0 : M Fl :=
    (setS 1 (lstW anil))
def b_tour_in_1 : M Fl :=
    (thenS (setS 3 (pl (fz (lcW (seqI (fz (splitW (get 2) (con (.str "-"))))) (gN 4) yesT (fz (callA F_digits (acons (get 4) anil))) [4]))))
    (thenS (ifS (orT (tb1 (op2 (eqA true) (cb lenD (acons (get 3) anil)) (con (.int 2)))) (tb1 (op2 (inF false) (con .none) (get 3)))) (retS (pl (con .none))) nxt)
    (exprS (mthE 1 appD (acons (tupD (acons (op2 ixD (get 3) (con (.int 0))) (acons (op2 ixD (get 3) (con (.int 1))) anil))) anil)))))
def s_tour_in_1 : M Fl :=
    (forS (seqI (ifE (tb1 (op2 (eqA true) (get 0) (con (.str "-")))) (fz (splitW (get 0) (con (.str " ")))) (lstD anil))) (gN 2) b_tour_in_1)
def s_tour_in_2 : M Fl :=
    (moveS 1)
def f_tour_in : M Fl :=
    (thenS s_tour_in_0 (thenS s_tour_in_1 s_tour_in_2))
def F_tour_in : List PyData → Option Wv := runA 1 5 f_tour_in
section
variable {P : Program} {w : World} {K : PySem.W.Frag} {mg : Str → Option Value} {base : Heap} {f : Addr} {fd : FuncData}
theorem dk_tour_in (F : Fun K "_law_tour_in" "_law_tour_in" S_tour_in f fd) {g_digits : Addr} {d_digits : FuncData} (G_digits : FnOk P w K mg base CX0 1 g_digits d_digits P_digits (spA K F_digits)) (b_digits : Binds K d_digits P_digits []) (k_digits : PySem.W.keepIn K (.ref g_digits) = true) (m_digits : mg "_law_digits" = some (.ref g_digits)) (B : Blt mg) : FnOk P w K mg base CX0 2 f fd P_tour_in (spA K F_tour_in) := by
  refine F.ok sc_tour_in (fun vs H Q E h => lenA h) (fun cdv A outer s H vs Q E hr h => ⟨_, (Evl.pss_cut (ps_set (i := 1) sc_tour_in.nd rfl (by first | exact Or.inl rfl | exact Or.inr rfl) (pe_lst pa_nil))
      (Evl.pss_cut (ps_for PassesOwn.never rfl (k_seq (K := K) rfl (pe_ifExp (pt_cmpR op_ne (pv 0) pe_str (nomark _)) (pe_split (pv 0) pe_str) (pe_lst pa_nil))) (pg_name (i := 2) sc_tour_in.nd rfl (by first | exact Or.inl rfl | exact Or.inr rfl))
      (Evl.pss_cut (by first | exact (ps_setLc (i := 3) (own := [("_law_part", 4)]) (g := (gName 4)) rfl sc_tour_in.nd rfl rfl (sw_true rfl rfl rfl (by decide +kernel)) (k_seq (K := K) rfl (pe_split (pv 2) pe_str)) (blkOk_by (own := [("_law_part", 4)]) (N := ["_law_words", "_law_found", "_law_word", "_law_parts", "_law_part"]) (sc := defScope S_tour_in) (by decide +kernel)) (fun _ _ _ _ _ => by exact (pg_name (i := 4) sc_tour_in.nd rfl (by first | exact Or.inl rfl | exact Or.inr rfl))) (fun _ _ _ _ _ => pts_nil) (fun _ _ _ _ _ => (pe_call G_digits (hr.mono (by decide)) rfl m_digits k_digits b_digits .nil pass0 (pa_cons (pv 4) pa_nil)))) | exact (ps_set (i := 3) sc_tour_in.nd rfl (by first | exact Or.inl rfl | exact Or.inr rfl) (pe_lc (own := [("_law_part", 4)]) (g := (gName 4)) rfl sc_tour_in.nd (k_seq (K := K) rfl (pe_split (pv 2) pe_str)) (blkOk_by (own := [("_law_part", 4)]) (N := ["_law_words", "_law_found", "_law_word", "_law_parts", "_law_part"]) (sc := defScope S_tour_in) (by decide +kernel)) (fun _ _ _ _ _ => by exact (pg_name (i := 4) sc_tour_in.nd rfl (by first | exact Or.inl rfl | exact Or.inr rfl))) (fun _ _ _ _ _ => pts_nil) (fun _ _ _ _ _ => (pe_call G_digits (hr.mono (by decide)) rfl m_digits k_digits b_digits .nil pass0 (pa_cons (pv 4) pa_nil))))))
      (Evl.pss_cut (ps_if (PW.pt (pw_or (pt_cmpR op_ne (pe_callB (k_len (K := K) rfl) rfl B.len PySem.boot_len (pa_cons (pv 3) pa_nil)) pe_int (nomark _)) (pw_or1 (pt_cmpR (k_in (K := K) rfl) pe_non (pv 3) (by rfl))))) (pss_one (ps_ret pe_non)) pss_nil)
      (pss_one (ps_expr (k_bm (K := K) rfl PySem.F.plainAttrs_list PySem.F.slot_list_append PySem.F.type_list_append mt_append (pv 1) (pa_cons (pe_tupB (pa_cons (pe_ix (k_ix (K := K) rfl) (pv 3) pe_int (fun _ _ => rfl)) (pa_cons (pe_ix (k_ix (K := K) rfl) (pv 3) pe_int (fun _ _ => rfl)) pa_nil))) pa_nil)))))))
      (pss_one (ps_ret (pv 1))))), ?_⟩)
  exact finA (N := N_tour_in) (by unfold f_tour_in s_tour_in_2 s_tour_in_1 b_tour_in_1 s_tour_in_0; exact (OkS.cut (OkS.set (fun z => z.elim0) (OkW.lst OkA.nil))
      (OkS.cut (OkS.for (OkI.seq (OkE.ife (OkT.test (OkE.op ok_ne (OkE.var 0) (OkE.con fun _ => .str _))) (OkW.e (OkW.split (OkE.var 0) (OkE.con fun _ => .str _))) (OkE.lst OkA.nil))) (OkG.name 2) (fun z => z.elim0) (OkS.cut (OkS.set (fun z => z.elim0) (OkE.w (OkW.e (OkW.lc (vs := [4]) (OkI.seq (OkW.e (OkW.split (OkE.var 2) (OkE.con fun _ => .str _)))) (OkG.name 4) (by decide) OkT.yes (OkW.e (OkW.call (OkA.cons (OkE.var 4) OkA.nil)))))))
      (OkS.cut (OkS.ife (OkT.or (OkT.test (OkE.op ok_ne (OkE.cb ok_len (OkA.cons (OkE.var 3) OkA.nil)) (OkE.con fun _ => .int _))) (OkT.test (OkE.op ok_inF (OkE.con fun _ => .non) (OkE.var 3)))) (OkS.ret (OkE.w (OkE.con fun _ => .non))) OkS.nil)
      (OkS.expr (OkE.mth ok_app (OkA.cons (OkE.tup (OkA.cons (OkE.op ok_ix (OkE.var 3) (OkE.con fun _ => .int _)) (OkA.cons (OkE.op ok_ix (OkE.var 3) (OkE.con fun _ => .int _)) OkA.nil))) OkA.nil))))))
      (OkS.move 1)))) h
end
def s_bent_text_0 : M Fl :=
    (parS 2 3 (pl (fz (callB 0 (F_take 2) (acons (op2 addD (cb lenTD (acons (get 1) anil)) (con (.int 1))) anil)))) (pl (fz (callB 0 (F_take 2) (acons (con (.int 6)) anil)))))
def s_bent_text_1 : M Fl :=
    (ifS (tb1 (op2 (eqA false) (get 3) (con (.int 0)))) (retS (pl (op2 catSD (slTD (get 1) poN (poS (get 2))) (slTD (get 1) (poS (op2 addD (get 2) (con (.int 1)))) poN)))) nxt)
def s_bent_text_2 : M Fl :=
    (ifS (tb1 (op2 (eqA false) (get 3) (con (.int 1)))) (retS (pl (op2 catSD (op2 catSD (slTD (get 1) poN (poS (get 2))) (slTD (get 1) (poS (get 2)) (poS (op2 addD (get 2) (con (.int 1)))))) (slTD (get 1) (poS (get 2)) poN)))) nxt)
def s_bent_text_3 : M Fl :=
    (ifS (tb1 (op2 (eqA false) (get 3) (con (.int 2)))) (thenS (setS 4 (pl (op2 catSD (slTD (get 1) (poS (op2 addD (get 2) (con (.int 1)))) (poS (op2 addD (get 2) (con (.int 2))))) (slTD (get 1) (poS (get 2)) (poS (op2 addD (get 2) (con (.int 1))))))))
    (retS (pl (op2 catSD (op2 catSD (slTD (get 1) poN (poS (get 2))) (get 4)) (slTD (get 1) (poS (op2 addD (get 2) (con (.int 2)))) poN))))) nxt)
def s_bent_text_4 : M Fl :=
    (setS 5 (pl (fz (callB 0 F_of (acons (op2 catD (cb listTD (acons (con (.str "0123456789 --+x")) anil)) (lstD (acons (con (.str "\n")) (acons (con (.str "	")) (acons (con (.str "  ")) (acons (con (.str " | ")) (acons (con (.str " ")) (acons (con (.str "0")) anil)))))))) anil)))))
def s_bent_text_5 : M Fl :=
    (retS (pl (op2 catSD (op2 catSD (slTD (get 1) poN (poS (get 2))) (get 5)) (slTD (get 1) (poS (op2 addD (get 2) (cb intD (acons (op2 (eqA false) (get 3) (con (.int 3))) anil)))) poN))))
def f_bent_text : M Fl :=
    (thenS s_bent_text_0 (thenS s_bent_text_1 (thenS s_bent_text_2 (thenS s_bent_text_3 (thenS s_bent_text_4 s_bent_text_5)))))
def F_bent_text : List PyData → List PyData → Option (Wv × List PyData) := runB 2 6 f_bent_text
section
variable {P : Program} {w : World} {K : PySem.W.Frag} {mg : Str → Option Value} {base : Heap} {f : Addr} {fd : FuncData}
theorem dk_bent_text (F : Fun K "_law_bent_text" "_law_bent_text" S_bent_text f fd) {g_take : Addr} {d_take : FuncData} (G_take : FnOk P w K mg base CX0 2 g_take d_take P_take (spB K (F_take 2))) (b_take : Binds K d_take P_take []) (k_take : PySem.W.keepIn K (.ref g_take) = true) (m_take : mg "_law_take" = some (.ref g_take)) {g_of : Addr} {d_of : FuncData} (G_of : FnOk P w K mg base CX0 3 g_of d_of P_of (spB K F_of)) (b_of : Binds K d_of P_of []) (k_of : PySem.W.keepIn K (.ref g_of) = true) (m_of : mg "_law_of" = some (.ref g_of)) (B : Blt mg) : FnOk P w K mg base CX0 4 f fd P_bent_text (spB K F_bent_text) := by
  refine F.ok sc_bent_text (fun vs H Q E h => lenB h) (fun cdv A outer s H vs Q E hr h => ⟨_, (Evl.pss_cut (ps_par (i := 2) (j := 3) rfl sc_bent_text.nd rfl rfl (by decide) rfl rfl (pa_cons (pe_call G_take (hr.mono (by decide)) rfl m_take k_take b_take .nil pass0 (pa_cons (pv 0) (pa_cons (pe_op op_add (pe_callB call_len_str rfl B.len PySem.boot_len (pa_cons (pv 1) pa_nil)) pe_int) pa_nil))) (pa_cons (pe_call G_take (hr.mono (by decide)) rfl m_take k_take b_take .nil pass0 (pa_cons (pv 0) (pa_cons pe_int pa_nil))) pa_nil)) rfl)
      (Evl.pss_cut (ps_if (pt_cmpR op_eq (pv 3) pe_int (nomark _)) (pss_one (ps_ret (pe_op op_add_str (pe_slice C8.sl_txt (pv 1) po_none (po_some (pv 2))) (pe_slice C8.sl_txt (pv 1) (po_some (pe_op op_add (pv 2) pe_int)) po_none)))) pss_nil)
      (Evl.pss_cut (ps_if (pt_cmpR op_eq (pv 3) pe_int (nomark _)) (pss_one (ps_ret (pe_op op_add_str (pe_op op_add_str (pe_slice C8.sl_txt (pv 1) po_none (po_some (pv 2))) (pe_slice C8.sl_txt (pv 1) (po_some (pv 2)) (po_some (pe_op op_add (pv 2) pe_int)))) (pe_slice C8.sl_txt (pv 1) (po_some (pv 2)) po_none)))) pss_nil)
      (Evl.pss_cut (ps_if (pt_cmpR op_eq (pv 3) pe_int (nomark _)) (Evl.pss_cut (ps_set (i := 4) sc_bent_text.nd rfl (by first | exact Or.inl rfl | exact Or.inr rfl) (pe_op op_add_str (pe_slice C8.sl_txt (pv 1) (po_some (pe_op op_add (pv 2) pe_int)) (po_some (pe_op op_add (pv 2) pe_int))) (pe_slice C8.sl_txt (pv 1) (po_some (pv 2)) (po_some (pe_op op_add (pv 2) pe_int)))))
      (pss_one (ps_ret (pe_op op_add_str (pe_op op_add_str (pe_slice C8.sl_txt (pv 1) po_none (po_some (pv 2))) (pv 4)) (pe_slice C8.sl_txt (pv 1) (po_some (pe_op op_add (pv 2) pe_int)) po_none))))) pss_nil)
      (Evl.pss_cut (ps_set (i := 5) sc_bent_text.nd rfl (by first | exact Or.inl rfl | exact Or.inr rfl) (pe_call G_of (hr.mono (by decide)) rfl m_of k_of b_of .nil pass0 (pa_cons (pv 0) (pa_cons (pe_op op_catL (pe_callTy (cr_listT rfl) rfl B.list (by decide +kernel) (pa_cons pe_str pa_nil)) (pe_lst (pa_cons pe_str (pa_cons pe_str (pa_cons pe_str (pa_cons pe_str (pa_cons pe_str (pa_cons pe_str pa_nil)))))))) pa_nil))))
      (pss_one (ps_ret (pe_op op_add_str (pe_op op_add_str (pe_slice C8.sl_txt (pv 1) po_none (po_some (pv 2))) (pv 5)) (pe_slice C8.sl_txt (pv 1) (po_some (pe_op op_add (pv 2) (pe_callTy call_int1 rfl B.int (by decide +kernel) (pa_cons (pe_cmpR op_eq (pv 3) pe_int (nomark _)) pa_nil)))) po_none))))))))), ?_⟩)
  exact finB (N := N_bent_text) (by unfold f_bent_text s_bent_text_5 s_bent_text_4 s_bent_text_3 s_bent_text_2 s_bent_text_1 s_bent_text_0; exact (OkS.cut (OkS.par (by decide) (OkE.w (OkW.e (OkW.callB (OkA.cons (OkE.op ok_add (OkE.cb ok_lenTx (OkA.cons (OkE.var 1) OkA.nil)) (OkE.con fun _ => .int _)) OkA.nil)))) (OkE.w (OkW.e (OkW.callB (OkA.cons (OkE.con fun _ => .int _) OkA.nil)))))
      (OkS.cut (OkS.ife (OkT.test (OkE.op ok_eq (OkE.var 3) (OkE.con fun _ => .int _))) (OkS.ret (OkE.w (OkE.op ok_catS (OkE.slT (OkE.var 1) OkP.none (OkP.some (OkE.var 2))) (OkE.slT (OkE.var 1) (OkP.some (OkE.op ok_add (OkE.var 2) (OkE.con fun _ => .int _))) OkP.none)))) OkS.nil)
      (OkS.cut (OkS.ife (OkT.test (OkE.op ok_eq (OkE.var 3) (OkE.con fun _ => .int _))) (OkS.ret (OkE.w (OkE.op ok_catS (OkE.op ok_catS (OkE.slT (OkE.var 1) OkP.none (OkP.some (OkE.var 2))) (OkE.slT (OkE.var 1) (OkP.some (OkE.var 2)) (OkP.some (OkE.op ok_add (OkE.var 2) (OkE.con fun _ => .int _))))) (OkE.slT (OkE.var 1) (OkP.some (OkE.var 2)) OkP.none)))) OkS.nil)
      (OkS.cut (OkS.ife (OkT.test (OkE.op ok_eq (OkE.var 3) (OkE.con fun _ => .int _))) (OkS.cut (OkS.set (by decide) (OkE.w (OkE.op ok_catS (OkE.slT (OkE.var 1) (OkP.some (OkE.op ok_add (OkE.var 2) (OkE.con fun _ => .int _))) (OkP.some (OkE.op ok_add (OkE.var 2) (OkE.con fun _ => .int _)))) (OkE.slT (OkE.var 1) (OkP.some (OkE.var 2)) (OkP.some (OkE.op ok_add (OkE.var 2) (OkE.con fun _ => .int _)))))))
      (OkS.ret (OkE.w (OkE.op ok_catS (OkE.op ok_catS (OkE.slT (OkE.var 1) OkP.none (OkP.some (OkE.var 2))) (OkE.var 4)) (OkE.slT (OkE.var 1) (OkP.some (OkE.op ok_add (OkE.var 2) (OkE.con fun _ => .int _))) OkP.none))))) OkS.nil)
      (OkS.cut (OkS.set (by decide) (OkE.w (OkW.e (OkW.callB (OkA.cons (OkE.op ok_catL (OkE.cb ok_listT (OkA.cons (OkE.con fun _ => .str _) OkA.nil)) (OkE.lst (OkA.cons (OkE.con fun _ => .str _) (OkA.cons (OkE.con fun _ => .str _) (OkA.cons (OkE.con fun _ => .str _) (OkA.cons (OkE.con fun _ => .str _) (OkA.cons (OkE.con fun _ => .str _) (OkA.cons (OkE.con fun _ => .str _) OkA.nil)))))))) OkA.nil)))))
      (OkS.ret (OkE.w (OkE.op ok_catS (OkE.op ok_catS (OkE.slT (OkE.var 1) OkP.none (OkP.some (OkE.var 2))) (OkE.var 5)) (OkE.slT (OkE.var 1) (OkP.some (OkE.op ok_add (OkE.var 2) (OkE.cb ok_int (OkA.cons (OkE.op ok_eq (OkE.var 3) (OkE.con fun _ => .int _)) OkA.nil)))) OkP.none)))))))))) h
end
def s_told_0 (c : Ad) : M Fl :=
    (unS (gT (gsC (gN 2) (gsC (gN 3) gsN))) (tupD (acons (con .none) (acons (con .none) anil))))
def s_told_1 (c : Ad) : M Fl :=
    (keepS 2 4 3 [c.BadLine, c.BadText] (ifW (tb1 (op2 (eqA false) (get 0) (con (.int 0)))) (callX (fun ds => if ds.length = 1 then (F_row_in_x c) ([0].map fun i => ds.getD i .none) else none) (acons (get 1) anil)) (callX (fun ds => if ds.length = 1 then (F_pairs_in_x c) ([0].map fun i => ds.getD i .none) else none) (acons (get 1) anil))))
def s_told_2 (c : Ad) : M Fl :=
    (ifS (tb1 (isNE false (get 3))) (retS (pl (get 2))) nxt)
def s_told_3 (c : Ad) : M Fl :=
    (setS 5 (pl (andV (isiX (fun C => if C ∈ [c.BadText, c.BadLine] then some (decide (C = c.BadText)) else none) (get 3)) (andV (isiX (inT [(c.BadText, true), (c.BadLine, true)]) (get 3)) (notV (isiX (fun C => if C ∈ [c.BadText, c.BadLine] then some (decide (C = c.BadLine)) else none) (get 3)))))))
def s_told_4 (c : Ad) : M Fl :=
    (retS (pl (ifE (tb1 (get 5)) (tupD (acons (con (.str "bad")) (acons (attrX "text" (fun C => decide (C ∈ [c.BadText])) (get 3)) anil))) (con (.str "other")))))
def f_told (c : Ad) : M Fl :=
    (thenS (s_told_0 c) (thenS (s_told_1 c) (thenS (s_told_2 c) (thenS (s_told_3 c) (s_told_4 c)))))
def F_told (c : Ad) : List PyData → Option Wv := runA 2 6 (f_told c)
section
variable {P : Program} {w : World} {K : PySem.W.Frag} {mg : Str → Option Value} {base : Heap} {f : Addr} {fd : FuncData} {c : Ad}
theorem dk_told (F : Fun K "_law_told" "_law_told" S_told f fd) {g_row_in_x : Addr} {d_row_in_x : FuncData} (G_row_in_x : FnOk P w K mg base (L2.CX P w) 3 g_row_in_x d_row_in_x P_row_in (spX K (F_row_in_x c))) (b_row_in_x : Binds K d_row_in_x P_row_in []) (k_row_in_x : PySem.W.keepIn K (.ref g_row_in_x) = true) (m_row_in_x : mg "row_in" = some (.ref g_row_in_x)) (q_row_in_x_0 : KBn K d_row_in_x P_row_in 0 ["text"] (fun _ ws => [0].map fun i => ws.getD i .none) (fun _ zs => [0].map fun i => zs.getD i .non)) {g_pairs_in_x : Addr} {d_pairs_in_x : FuncData} (G_pairs_in_x : FnOk P w K mg base (L2.CX P w) 3 g_pairs_in_x d_pairs_in_x P_pairs_in (spX K (F_pairs_in_x c))) (b_pairs_in_x : Binds K d_pairs_in_x P_pairs_in []) (k_pairs_in_x : PySem.W.keepIn K (.ref g_pairs_in_x) = true) (m_pairs_in_x : mg "pairs_in" = some (.ref g_pairs_in_x)) (q_pairs_in_x_0 : KBn K d_pairs_in_x P_pairs_in 0 ["text"] (fun _ ws => [0].map fun i => ws.getD i .none) (fun _ zs => [0].map fun i => zs.getD i .non)) (B : Blt mg) (M : Mks P w K mg base c) : FnOk P w K mg base CX0 4 f fd P_told (spA K (F_told c)) := by
  refine F.ok sc_told (fun vs H Q E h => lenA h) (fun cdv A outer s H vs Q E hr h => ⟨_, (Evl.pss_cut (ps_asg (pe_tupB (pa_cons pe_non (pa_cons pe_non pa_nil))) (pg_tup rfl (pgs_cons (pg_name (i := 2) sc_told.nd rfl (by first | exact Or.inl rfl | exact Or.inr rfl)) (pgs_cons (pg_name (i := 3) sc_told.nd rfl (by first | exact Or.inl rfl | exact Or.inr rfl)) pgs_nil))))
      (Evl.pss_cut (ps_keep (t := tE) (i := 4) rfl rfl rfl sc_told.nd rfl rfl (.cons rfl (by decide) M.BadLine.mgC rfl (.cons rfl (by decide) M.BadText.mgC rfl Nms.nil)) (smallB rfl) (fun W pn xe tk _ => (pss_one (ps_set (i := 2) sc_told.nd rfl (by first | exact Or.inl rfl | exact Or.inr rfl) (pe_ifExp (pt_cmpR op_eq (pv 0) pe_int (nomark _)) (pe_callKS G_row_in_x (hr.mono (by decide)) rfl m_row_in_x k_row_in_x q_row_in_x_0 (fun σ => passAt tk σ) (pk_cons (pv 1) pk_nil)) (pe_callKS G_pairs_in_x (hr.mono (by decide)) rfl m_pairs_in_x k_pairs_in_x q_pairs_in_x_0 (fun σ => passAt tk σ) (pk_cons (pv 1) pk_nil)))))) (fun a oe cls d pn hz hf => (pss_one (ps_set (i := 3) sc_told.nd rfl (by first | exact Or.inl rfl | exact Or.inr rfl) (pv 4)))))
      (Evl.pss_cut (ps_if (pt_cmpR op_isN (pv 3) pe_non (nomark _)) (pss_one (ps_ret (pv 2))) pss_nil)
      (Evl.pss_cut (ps_set (i := 5) sc_told.nd rfl (by first | exact Or.inl rfl | exact Or.inr rfl) (pe_and (pe_callB call_isC2 rfl B.isinstance (by decide +kernel) (pa_cons (pv 3) (pa_cons (pe_glob (v := .ref c.BadText) rfl M.BadText.mgC rfl) pa_nil))) (pe_and (pe_callB call_isC2 rfl B.isinstance (by decide +kernel) (pa_cons (pv 3) (pa_cons (pe_bltn (v := .ty "ValueError") rfl B.ValueError (by decide +kernel) rfl) pa_nil))) (pe_one (pe_not (pe_callB call_isC2 rfl B.isinstance (by decide +kernel) (pa_cons (pv 3) (pa_cons (pe_glob (v := .ref c.BadLine) rfl M.BadLine.mgC rfl) pa_nil))))))))
      (pss_one (ps_ret (pe_ifExp (pt_val (pv 5)) (pe_tupB (pa_cons pe_str (pa_cons (pe_caf (pv 3)) pa_nil))) pe_str))))))), ?_⟩)
  exact finA (N := N_told) (by unfold f_told s_told_4 s_told_3 s_told_2 s_told_1 s_told_0; exact (OkS.cut (OkS.unpack (OkG.tup (OkGs.cons (OkG.name 2) (OkGs.cons (OkG.name 3) OkGs.nil))) (fun z => z.elim0) (OkE.tup (OkA.cons (OkE.con fun _ => .non) (OkA.cons (OkE.con fun _ => .non) OkA.nil))))
      (OkS.cut (have hk := OkS.keepC (K := K) (i := 2) (j := 4) (m := 3) (cs := [c.BadLine, c.BadText]) (fun W σ => (watIf (OkT.test (OkE.op ok_eq (OkE.var 0) (OkE.con fun _ => .int _))) (OkWat.callK (F := (F_row_in_x c)) (W := W) (n := 1) (gV := fun _ vs => [0].map fun i => vs.getD i .non) (gD := fun ds => [0].map fun i => ds.getD i .none) (kw_da (n := 1) (pi := [0]) (by decide)) (OkA.cons (OkE.var 1) OkA.nil)) (OkWat.callK (F := (F_pairs_in_x c)) (W := W) (n := 1) (gV := fun _ vs => [0].map fun i => vs.getD i .non) (gD := fun ds => [0].map fun i => ds.getD i .none) (kw_da (n := 1) (pi := [0]) (by decide)) (OkA.cons (OkE.var 1) OkA.nil)))) (by simp only [List.mem_cons, List.not_mem_nil, or_false]; rintro C (rfl | rfl) <;> first | exact ⟨_, M.BadLine.cl⟩ | exact ⟨_, M.BadText.cl⟩); hk)
      (OkS.cut (OkS.ife (OkT.test (OkE.isN (OkE.var 3))) (OkS.ret (OkE.w (OkE.var 2))) OkS.nil)
      (OkS.cut (OkS.set (fun z => z.elim0) (OkE.w (OkE.and (OkE.isiX (.own c.BadText) (kit_own (by simp only [List.mem_cons, List.not_mem_nil, or_false]; rintro C (rfl | rfl) <;> first | exact ⟨_, M.BadText.cl⟩ | exact ⟨_, M.BadLine.cl⟩) M.BadText.cl) (OkE.var 3)) (OkE.and (OkE.isiX (.ty "ValueError") (kit_bas (ts := [(c.BadText, true), (c.BadLine, true)]) (by decide) (fun p hp => by simp only [List.mem_cons, List.not_mem_nil, or_false] at hp; rcases hp with rfl | rfl <;> first | exact ⟨_, M.BadText.cl, by first | (show (tl 0).contains _ = true; decide +kernel) | (show (tl 0).contains _ = false; decide +kernel)⟩ | exact ⟨_, M.BadLine.cl, by first | (show (tl 0).contains _ = true; decide +kernel) | (show (tl 0).contains _ = false; decide +kernel)⟩)) (OkE.var 3)) (OkE.not (OkE.isiX (.own c.BadLine) (kit_own (by simp only [List.mem_cons, List.not_mem_nil, or_false]; rintro C (rfl | rfl) <;> first | exact ⟨_, M.BadText.cl⟩ | exact ⟨_, M.BadLine.cl⟩) M.BadLine.cl) (OkE.var 3)))))))
      (OkS.ret (OkE.w (OkE.ife (OkT.val (OkE.var 5)) (OkE.tup (OkA.cons (OkE.con fun _ => .str _) (OkA.cons (OkE.attrX (by decide) (no_of (cs := [c.BadText]) (by simp only [List.mem_cons, List.not_mem_nil, or_false]; rintro C (rfl) <;> first | exact M.BadText.no)) (OkE.var 3)) OkA.nil))) (OkE.con fun _ => .str _))))))))) h
end
def s_due_0 : M Fl :=
    (setS 2 (pl (ifE (tb1 (op2 (eqA false) (get 0) (con (.int 0)))) (fz (callA F_crowd_in (acons (get 1) anil))) (fz (callA F_tour_in (acons (get 1) anil))))))
def s_due_1 : M Fl :=
    (retS (pl (ifE (tb1 (isNE false (get 2))) (tupD (acons (con (.str "bad")) (acons (get 1) anil))) (get 2))))
def f_due : M Fl :=
    (thenS s_due_0 s_due_1)
def F_due : List PyData → Option Wv := runA 2 3 f_due
section
variable {P : Program} {w : World} {K : PySem.W.Frag} {mg : Str → Option Value} {base : Heap} {f : Addr} {fd : FuncData}
theorem dk_due (F : Fun K "_law_due" "_law_due" S_due f fd) {g_crowd_in : Addr} {d_crowd_in : FuncData} (G_crowd_in : FnOk P w K mg base CX0 3 g_crowd_in d_crowd_in P_crowd_in (spA K F_crowd_in)) (b_crowd_in : Binds K d_crowd_in P_crowd_in []) (k_crowd_in : PySem.W.keepIn K (.ref g_crowd_in) = true) (m_crowd_in : mg "_law_crowd_in" = some (.ref g_crowd_in)) {g_tour_in : Addr} {d_tour_in : FuncData} (G_tour_in : FnOk P w K mg base CX0 2 g_tour_in d_tour_in P_tour_in (spA K F_tour_in)) (b_tour_in : Binds K d_tour_in P_tour_in []) (k_tour_in : PySem.W.keepIn K (.ref g_tour_in) = true) (m_tour_in : mg "_law_tour_in" = some (.ref g_tour_in)) (B : Blt mg) : FnOk P w K mg base CX0 4 f fd P_due (spA K F_due) := by
  refine F.ok sc_due (fun vs H Q E h => lenA h) (fun cdv A outer s H vs Q E hr h => ⟨_, (Evl.pss_cut (ps_set (i := 2) sc_due.nd rfl (by first | exact Or.inl rfl | exact Or.inr rfl) (pe_ifExp (pt_cmpR op_eq (pv 0) pe_int (nomark _)) (pe_call G_crowd_in (hr.mono (by decide)) rfl m_crowd_in k_crowd_in b_crowd_in .nil pass0 (pa_cons (pv 1) pa_nil)) (pe_call G_tour_in (hr.mono (by decide)) rfl m_tour_in k_tour_in b_tour_in .nil pass0 (pa_cons (pv 1) pa_nil))))
      (pss_one (ps_ret (pe_ifExp (pt_cmpR op_isN (pv 2) pe_non (nomark _)) (pe_tupB (pa_cons pe_str (pa_cons (pv 1) pa_nil))) (pv 2))))), ?_⟩)
  exact finA (N := N_due) (by unfold f_due s_due_1 s_due_0; exact (OkS.cut (OkS.set (fun z => z.elim0) (OkE.w (OkE.ife (OkT.test (OkE.op ok_eq (OkE.var 0) (OkE.con fun _ => .int _))) (OkW.e (OkW.call (OkA.cons (OkE.var 1) OkA.nil))) (OkW.e (OkW.call (OkA.cons (OkE.var 1) OkA.nil))))))
      (OkS.ret (OkE.w (OkE.ife (OkT.test (OkE.isN (OkE.var 2))) (OkE.tup (OkA.cons (OkE.con fun _ => .str _) (OkA.cons (OkE.var 1) OkA.nil))) (OkE.var 2)))))) h
end
def s_right_0 (c : Ad) : M Fl :=
    (parS 1 2 (pl (fz (callB 0 F_crowd (acons (con (.int 12)) anil)))) (lstW anil))
def b_right_1 (c : Ad) : M Fl :=
    (exprS (mthE 2 appD (acons (tupD (acons (fz (callB 0 (F_take 2) (acons (con (.int 20)) anil))) (acons (fz (callB 0 (F_take 2) (acons (op2 powD (con (.int 10)) (con (.int 9))) anil))) anil))) anil)))
def s_right_1 (c : Ad) : M Fl :=
    (forS (argI rngD (acons (fz (callB 0 (F_take 2) (acons (con (.int 10)) anil))) anil)) (gN 3) (b_right_1 c))
def s_right_2 (c : Ad) : M Fl :=
    (M.bind (frzM 2) fun _ => (setS 4 (pl (lstD (acons (fz (callA F_sum_text (acons (get 1) anil))) (acons (fz (callA F_tour_text (acons (get 2) anil))) anil))))))
def s_right_3 (c : Ad) : M Fl :=
    (setS 5 (pl (lstD (acons (fz (callA F_row_text (acons (get 1) anil))) (acons (fz (callA F_pairs_text (acons (get 2) anil))) (acons (fz (callA (fun ds => if ds.length = 1 then F_row_text ([0].map fun i => ds.getD i .none) else none) (acons (cb listD (acons (get 1) anil)) anil))) (acons (fz (callA (fun ds => if ds.length = 1 then F_pairs_text ([0].map fun i => ds.getD i .none) else none) (acons (cb tupleD (acons (fz (callA (F_lists 4) (acons (get 2) anil))) anil)) anil))) anil)))))))
def s_right_4 (c : Ad) : M Fl :=
    (ifS (notT (tb1 (fz (callA (F_same 5) (acons (get 5) (acons (op2 catD (get 4) (get 4)) anil)))))) (retS (pl (con (.bool false)))) nxt)
def s_right_5 (c : Ad) : M Fl :=
    (setS 6 (pl (lstD (acons (con (.str "")) (acons (con (.str " ")) (acons (con (.str "-")) (acons (con (.str "--")) (acons (con (.str "0")) (acons (con (.str "1")) (acons (con (.str "01")) (acons (con (.str "1 1")) (acons (con (.str "1 0")) (acons (con (.str "2 1 ")) (acons (con (.str " 2 1")) (acons (con (.str "2  1")) (acons (con (.str "1 -")) (acons (con (.str "- 1")) (acons (con (.str "-1")) (acons (con (.str "+1")) (acons (con (.str "1,2")) anil))))))))))))))))))))
def s_right_6 (c : Ad) : M Fl :=
    (setS 6 (pl (op2 catD (get 6) (lstD (acons (con (.str "0-0")) (acons (con (.str "0-2")) (acons (con (.str "2-0")) (acons (con (.str "0-2 ")) (acons (con (.str "0-2  0-3")) (acons (con (.str "00-2")) (acons (con (.str "0-02")) (acons (con (.str "0-")) (acons (con (.str "-0")) (acons (con (.str "0-2-4")) (acons (con (.str "0--2")) anil)))))))))))))))
def s_right_7 (c : Ad) : M Fl :=
    (setS 6 (pl (op2 catD (get 6) (lstD (acons (con (.str "0 - 2")) (acons (con (.str "0-2 -")) anil))))))
def s_right_8 (c : Ad) : M Fl :=
    (setS 6 (pl (op2 catD (get 6) (lstD (acons (con (.str "9999999999")) (acons (con (.str "10000000000")) (acons (con (.str "9999999999-1")) (acons (con (.str "1-10000000000")) (acons (con (.str "1\n2")) (acons (con (.str "0-2\n")) (acons (con (.str "1_0")) anil)))))))))))
def s_right_9 (c : Ad) : M Fl :=
    (setS 6 (pl (op2 catD (get 6) (lstD (acons (con (.str "1_0-2")) (acons (con (.str "0-1_0")) (acons (con (.str "1\n")) (acons (con (.str "-\n")) (acons (con (.str "3 1 2\n")) (acons (con (.str "\n1")) anil))))))))))
def s_right_10 (c : Ad) : M Fl :=
    (setS 7 (pl (txM1 joinTD (con (.str " ")) (fz (lcW (argI rngD2 (acons (con (.int 1)) (acons (op2 addD (con (.int 18)) (fz (callB 0 (F_take 2) (acons (con (.int 9)) anil)))) anil))) (gN 8) yesT (cb strD (acons (get 8) anil)) [8])))))
def b_right_11 (c : Ad) : M Fl :=
    (thenS (setS 10 (catW (get 6) (lstD (acons (get 7) (acons (op2 catSD (get 7) (con (.str " 1"))) (acons (op2 catSD (get 7) (con (.str " 9999999999"))) anil))))))
    (thenS (forS (argI rngD (acons (con (.int 14)) anil)) (gN 3) (thenS (setS 11 (pl (fz (callB 0 F_bent_text (acons (op2 ixD (get 4) (get 9)) anil)))))
    (exprS (mthE 10 appD (acons (ifE (tb1 (op2 (eqA false) (fz (callB 0 (F_take 2) (acons (con (.int 3)) anil))) (con (.int 0)))) (fz (callB 0 F_bent_text (acons (get 11) anil))) (get 11)) anil)))))
    (forS (seqI (op2 catD (get 10) (lstD (acons (op2 ixD (get 4) (get 9)) anil)))) (gN 12) (ifS (notT (tb1 (fz (callA (F_same 5) (acons (fz (callA (F_told c) (acons (get 9) (acons (get 12) anil)))) (acons (fz (callA F_due (acons (get 9) (acons (get 12) anil)))) anil)))))) (retS (pl (con (.bool false)))) nxt))))
def s_right_11 (c : Ad) : M Fl :=
    (forS (argI rngD (acons (con (.int 2)) anil)) (gN 9) (b_right_11 c))
def s_right_12 (c : Ad) : M Fl :=
    (setS 13 (lstN (wcons (callA F_pairs_in (acons (con (.str "-")) anil)) (wcons (callA F_pairs_in (acons (op2 ixD (get 4) (con (.int 1))) anil)) wnil))))
def s_right_13 (c : Ad) : M Fl :=
    (exprS (mthN 13 0 appD [.str "more"]))
def s_right_14 (c : Ad) : M Fl :=
    (exprS (mthN 13 1 appD [.str "more"]))
def s_right_15 (c : Ad) : M Fl :=
    (retS (pl (fz (callA (F_same 5) (acons (lstD (acons (fz (callA F_pairs_in (acons (con (.str "-")) anil))) (acons (fz (callA F_pairs_in (acons (op2 ixD (get 4) (con (.int 1))) anil))) (acons (fz (callA F_row_in (acons (op2 ixD (get 4) (con (.int 0))) anil))) anil)))) (acons (lstD (acons (lstD anil) (acons (get 2) (acons (get 1) anil)))) anil))))))
def f_right (c : Ad) : M Fl :=
    (thenS (s_right_0 c) (thenS (s_right_1 c) (thenS (s_right_2 c) (thenS (s_right_3 c) (thenS (s_right_4 c) (thenS (s_right_5 c) (thenS (s_right_6 c) (thenS (s_right_7 c) (thenS (s_right_8 c) (thenS (s_right_9 c) (thenS (s_right_10 c) (thenS (s_right_11 c) (thenS (s_right_12 c) (thenS (s_right_13 c) (thenS (s_right_14 c) (s_right_15 c))))))))))))))))
def F_right (c : Ad) : List PyData → List PyData → Option (Wv × List PyData) := runB 1 14 (f_right c)
section
variable {P : Program} {w : World} {K : PySem.W.Frag} {mg : Str → Option Value} {base : Heap} {f : Addr} {fd : FuncData} {c : Ad}
theorem dk_right (F : Fun K "_law_right" "_law_right" S_right f fd) {g_crowd : Addr} {d_crowd : FuncData} (G_crowd : FnOk P w K mg base CX0 5 g_crowd d_crowd P_crowd (spB K F_crowd)) (b_crowd : Binds K d_crowd P_crowd []) (k_crowd : PySem.W.keepIn K (.ref g_crowd) = true) (m_crowd : mg "_law_crowd" = some (.ref g_crowd)) {g_take : Addr} {d_take : FuncData} (G_take : FnOk P w K mg base CX0 2 g_take d_take P_take (spB K (F_take 2))) (b_take : Binds K d_take P_take []) (k_take : PySem.W.keepIn K (.ref g_take) = true) (m_take : mg "_law_take" = some (.ref g_take)) {g_sum_text : Addr} {d_sum_text : FuncData} (G_sum_text : FnOk P w K mg base CX0 1 g_sum_text d_sum_text P_sum_text (spA K F_sum_text)) (b_sum_text : Binds K d_sum_text P_sum_text []) (k_sum_text : PySem.W.keepIn K (.ref g_sum_text) = true) (m_sum_text : mg "_law_sum_text" = some (.ref g_sum_text)) {g_tour_text : Addr} {d_tour_text : FuncData} (G_tour_text : FnOk P w K mg base CX0 1 g_tour_text d_tour_text P_tour_text (spA K F_tour_text)) (b_tour_text : Binds K d_tour_text P_tour_text []) (k_tour_text : PySem.W.keepIn K (.ref g_tour_text) = true) (m_tour_text : mg "_law_tour_text" = some (.ref g_tour_text)) {g_row_text : Addr} {d_row_text : FuncData} (G_row_text : FnOk P w K mg base CX0 2 g_row_text d_row_text P_row_text (spA K F_row_text)) (b_row_text : Binds K d_row_text P_row_text []) (k_row_text : PySem.W.keepIn K (.ref g_row_text) = true) (m_row_text : mg "row_text" = some (.ref g_row_text)) (q_row_text_0 : KBn K d_row_text P_row_text 0 ["row"] (fun _ ws => [0].map fun i => ws.getD i .none) (fun _ zs => [0].map fun i => zs.getD i .non)) {g_pairs_text : Addr} {d_pairs_text : FuncData} (G_pairs_text : FnOk P w K mg base CX0 2 g_pairs_text d_pairs_text P_pairs_text (spA K F_pairs_text)) (b_pairs_text : Binds K d_pairs_text P_pairs_text []) (k_pairs_text : PySem.W.keepIn K (.ref g_pairs_text) = true) (m_pairs_text : mg "pairs_text" = some (.ref g_pairs_text)) (q_pairs_text_0 : KBn K d_pairs_text P_pairs_text 0 ["pairs"] (fun _ ws => [0].map fun i => ws.getD i .none) (fun _ zs => [0].map fun i => zs.getD i .non)) {g_lists : Addr} {d_lists : FuncData} (G_lists : FnOk P w K mg base CX0 4 g_lists d_lists P_lists (spA K (F_lists 4))) (b_lists : Binds K d_lists P_lists []) (k_lists : PySem.W.keepIn K (.ref g_lists) = true) (m_lists : mg "_law_lists" = some (.ref g_lists)) {g_same : Addr} {d_same : FuncData} (G_same : FnOk P w K mg base CX0 5 g_same d_same P_same (spA K (F_same 5))) (b_same : Binds K d_same P_same []) (k_same : PySem.W.keepIn K (.ref g_same) = true) (m_same : mg "_law_same" = some (.ref g_same)) {g_bent_text : Addr} {d_bent_text : FuncData} (G_bent_text : FnOk P w K mg base CX0 4 g_bent_text d_bent_text P_bent_text (spB K F_bent_text)) (b_bent_text : Binds K d_bent_text P_bent_text []) (k_bent_text : PySem.W.keepIn K (.ref g_bent_text) = true) (m_bent_text : mg "_law_bent_text" = some (.ref g_bent_text)) {g_told : Addr} {d_told : FuncData} (G_told : FnOk P w K mg base CX0 4 g_told d_told P_told (spA K (F_told c))) (b_told : Binds K d_told P_told []) (k_told : PySem.W.keepIn K (.ref g_told) = true) (m_told : mg "_law_told" = some (.ref g_told)) {g_due : Addr} {d_due : FuncData} (G_due : FnOk P w K mg base CX0 4 g_due d_due P_due (spA K F_due)) (b_due : Binds K d_due P_due []) (k_due : PySem.W.keepIn K (.ref g_due) = true) (m_due : mg "_law_due" = some (.ref g_due)) {g_pairs_in : Addr} {d_pairs_in : FuncData} (G_pairs_in : FnOk P w K mg base CX0 3 g_pairs_in d_pairs_in P_pairs_in (spA K F_pairs_in)) (b_pairs_in : Binds K d_pairs_in P_pairs_in []) (k_pairs_in : PySem.W.keepIn K (.ref g_pairs_in) = true) (m_pairs_in : mg "pairs_in" = some (.ref g_pairs_in)) (q_pairs_in_0 : KBn K d_pairs_in P_pairs_in 0 ["text"] (fun _ ws => [0].map fun i => ws.getD i .none) (fun _ zs => [0].map fun i => zs.getD i .non)) {g_row_in : Addr} {d_row_in : FuncData} (G_row_in : FnOk P w K mg base CX0 3 g_row_in d_row_in P_row_in (spA K F_row_in)) (b_row_in : Binds K d_row_in P_row_in []) (k_row_in : PySem.W.keepIn K (.ref g_row_in) = true) (m_row_in : mg "row_in" = some (.ref g_row_in)) (q_row_in_0 : KBn K d_row_in P_row_in 0 ["text"] (fun _ ws => [0].map fun i => ws.getD i .none) (fun _ zs => [0].map fun i => zs.getD i .non)) (B : Blt mg) (M : Mks P w K mg base c) : FnOk P w K mg base CX0 6 f fd P_right (spB K (F_right c)) := by
  refine F.ok sc_right (fun vs H Q E h => lenB h) (fun cdv A outer s H vs Q E hr h => ⟨_, (Evl.pss_cut (ps_par (i := 1) (j := 2) rfl sc_right.nd rfl rfl (by decide) rfl rfl (pa_cons (pe_call G_crowd (hr.mono (by decide)) rfl m_crowd k_crowd b_crowd .nil pass0 (pa_cons (pv 0) (pa_cons pe_int pa_nil))) (pa_cons (pe_lst pa_nil) pa_nil)) rfl)
      (Evl.pss_cut (ps_for PassesOwn.never rfl (pi_range1 rfl B.range (pa_cons (pe_call G_take (hr.mono (by decide)) rfl m_take k_take b_take .nil pass0 (pa_cons (pv 0) (pa_cons pe_int pa_nil))) pa_nil)) (pg_name (i := 3) sc_right.nd rfl (by first | exact Or.inl rfl | exact Or.inr rfl))
      (pss_one (ps_expr (k_bm (K := K) rfl PySem.F.plainAttrs_list PySem.F.slot_list_append PySem.F.type_list_append mt_append (pv 2) (pa_cons (pe_tupB (pa_cons (pe_call G_take (hr.mono (by decide)) rfl m_take k_take b_take .nil pass0 (pa_cons (pv 0) (pa_cons pe_int pa_nil))) (pa_cons (pe_call G_take (hr.mono (by decide)) rfl m_take k_take b_take .nil pass0 (pa_cons (pv 0) (pa_cons (pe_op op_pow pe_int pe_int) pa_nil))) pa_nil))) pa_nil)))))
      (Evl.pss_cut (ps_set (i := 4) sc_right.nd rfl (by first | exact Or.inl rfl | exact Or.inr rfl) (pe_lst (pa_cons (pe_call G_sum_text (hr.mono (by decide)) rfl m_sum_text k_sum_text b_sum_text .nil pass0 (pa_cons (pv 1) pa_nil)) (pa_cons (pe_call G_tour_text (hr.mono (by decide)) rfl m_tour_text k_tour_text b_tour_text .nil pass0 (pa_cons (pv 2) pa_nil)) pa_nil))))
      (Evl.pss_cut (ps_set (i := 5) sc_right.nd rfl (by first | exact Or.inl rfl | exact Or.inr rfl) (pe_lst (pa_cons (pe_call G_row_text (hr.mono (by decide)) rfl m_row_text k_row_text b_row_text .nil pass0 (pa_cons (pv 1) pa_nil)) (pa_cons (pe_call G_pairs_text (hr.mono (by decide)) rfl m_pairs_text k_pairs_text b_pairs_text .nil pass0 (pa_cons (pv 2) pa_nil)) (pa_cons (pe_callK0 G_row_text (hr.mono (by decide)) rfl m_row_text k_row_text q_row_text_0 pass0 (pk_cons (pe_callTy (k_list (K := K) rfl) rfl B.list (by decide +kernel) (pa_cons (pv 1) pa_nil)) pk_nil)) (pa_cons (pe_callK0 G_pairs_text (hr.mono (by decide)) rfl m_pairs_text k_pairs_text q_pairs_text_0 pass0 (pk_cons (pe_callTy (k_tup (K := K) rfl) rfl B.tuple (by decide +kernel) (pa_cons (pe_call G_lists (hr.mono (by decide)) rfl m_lists k_lists b_lists .nil pass0 (pa_cons (pv 2) pa_nil)) pa_nil)) pk_nil)) pa_nil))))))
      (Evl.pss_cut (ps_if (pt_not (pt_val (pe_call G_same (hr.mono (by decide)) rfl m_same k_same b_same .nil pass0 (pa_cons (pv 5) (pa_cons (pe_op op_catL (pv 4) (pv 4)) pa_nil))))) (pss_one (ps_ret pe_bl)) pss_nil)
      (Evl.pss_cut (ps_set (i := 6) sc_right.nd rfl (by first | exact Or.inl rfl | exact Or.inr rfl) (pe_lst (pa_cons pe_str (pa_cons pe_str (pa_cons pe_str (pa_cons pe_str (pa_cons pe_str (pa_cons pe_str (pa_cons pe_str (pa_cons pe_str (pa_cons pe_str (pa_cons pe_str (pa_cons pe_str (pa_cons pe_str (pa_cons pe_str (pa_cons pe_str (pa_cons pe_str (pa_cons pe_str (pa_cons pe_str pa_nil)))))))))))))))))))
      (Evl.pss_cut (ps_set (i := 6) sc_right.nd rfl (by first | exact Or.inl rfl | exact Or.inr rfl) (pe_op op_catL (pv 6) (pe_lst (pa_cons pe_str (pa_cons pe_str (pa_cons pe_str (pa_cons pe_str (pa_cons pe_str (pa_cons pe_str (pa_cons pe_str (pa_cons pe_str (pa_cons pe_str (pa_cons pe_str (pa_cons pe_str pa_nil))))))))))))))
      (Evl.pss_cut (ps_set (i := 6) sc_right.nd rfl (by first | exact Or.inl rfl | exact Or.inr rfl) (pe_op op_catL (pv 6) (pe_lst (pa_cons pe_str (pa_cons pe_str pa_nil)))))
      (Evl.pss_cut (ps_set (i := 6) sc_right.nd rfl (by first | exact Or.inl rfl | exact Or.inr rfl) (pe_op op_catL (pv 6) (pe_lst (pa_cons pe_str (pa_cons pe_str (pa_cons pe_str (pa_cons pe_str (pa_cons pe_str (pa_cons pe_str (pa_cons pe_str pa_nil))))))))))
      (Evl.pss_cut (ps_set (i := 6) sc_right.nd rfl (by first | exact Or.inl rfl | exact Or.inr rfl) (pe_op op_catL (pv 6) (pe_lst (pa_cons pe_str (pa_cons pe_str (pa_cons pe_str (pa_cons pe_str (pa_cons pe_str (pa_cons pe_str pa_nil)))))))))
      (Evl.pss_cut (ps_set (i := 7) sc_right.nd rfl (by first | exact Or.inl rfl | exact Or.inr rfl) (k_joinT (K := K) rfl pe_str (pe_lc (own := [("_law_k", 8)]) (g := (gName 8)) rfl sc_right.nd (pi_range2 rfl B.range (pa_cons pe_int (pa_cons (pe_op op_add pe_int (pe_call G_take (hr.mono (by decide)) rfl m_take k_take b_take .nil pass0 (pa_cons (pv 0) (pa_cons pe_int pa_nil)))) pa_nil))) (blkOk_by (own := [("_law_k", 8)]) (N := ["_law_box_here", "_law_crowd_here", "_law_tour", "_law_turn", "_law_said", "_law_told_here", "_law_fixed", "_law_many_so", "_law_k", "_law_which", "_law_tries", "_law_bent", "_law_words", "_law_found"]) (sc := defScope S_right) (by decide +kernel)) (fun _ _ _ _ _ => by exact (pg_name (i := 8) sc_right.nd rfl (by first | exact Or.inl rfl | exact Or.inr rfl))) (fun _ _ _ _ _ => pts_nil) (fun _ _ _ _ _ => (pe_callTy call_str_int rfl B.str (by decide +kernel) (pa_cons (pv 8) pa_nil))))))
      (Evl.pss_cut (ps_for PassesOwn.never rfl (pi_range1 rfl B.range (pa_cons pe_int pa_nil)) (pg_name (i := 9) sc_right.nd rfl (by first | exact Or.inl rfl | exact Or.inr rfl))
      (Evl.pss_cut (ps_set (i := 10) sc_right.nd rfl (by first | exact Or.inl rfl | exact Or.inr rfl) (pe_op op_catL (pv 6) (pe_lst (pa_cons (pv 7) (pa_cons (pe_op op_add_str (pv 7) pe_str) (pa_cons (pe_op op_add_str (pv 7) pe_str) pa_nil))))))
      (Evl.pss_cut (ps_for PassesOwn.never rfl (pi_range1 rfl B.range (pa_cons pe_int pa_nil)) (pg_name (i := 3) sc_right.nd rfl (by first | exact Or.inl rfl | exact Or.inr rfl))
      (Evl.pss_cut (ps_set (i := 11) sc_right.nd rfl (by first | exact Or.inl rfl | exact Or.inr rfl) (pe_call G_bent_text (hr.mono (by decide)) rfl m_bent_text k_bent_text b_bent_text .nil pass0 (pa_cons (pv 0) (pa_cons (pe_ix (k_ix (K := K) rfl) (pv 4) (pv 9) (fun _ _ => rfl)) pa_nil))))
      (pss_one (ps_expr (k_bm (K := K) rfl PySem.F.plainAttrs_list PySem.F.slot_list_append PySem.F.type_list_append mt_append (pv 10) (pa_cons (pe_ifExp (pt_cmpR op_eq (pe_call G_take (hr.mono (by decide)) rfl m_take k_take b_take .nil pass0 (pa_cons (pv 0) (pa_cons pe_int pa_nil))) pe_int (nomark _)) (pe_call G_bent_text (hr.mono (by decide)) rfl m_bent_text k_bent_text b_bent_text .nil pass0 (pa_cons (pv 0) (pa_cons (pv 11) pa_nil))) (pv 11)) pa_nil))))))
      (pss_one (ps_for PassesOwn.never rfl (k_seq (K := K) rfl (pe_op op_catL (pv 10) (pe_lst (pa_cons (pe_ix (k_ix (K := K) rfl) (pv 4) (pv 9) (fun _ _ => rfl)) pa_nil)))) (pg_name (i := 12) sc_right.nd rfl (by first | exact Or.inl rfl | exact Or.inr rfl))
      (pss_one (ps_if (pt_not (pt_val (pe_call G_same (hr.mono (by decide)) rfl m_same k_same b_same .nil pass0 (pa_cons (pe_call G_told (hr.mono (by decide)) rfl m_told k_told b_told .nil pass0 (pa_cons (pv 9) (pa_cons (pv 12) pa_nil))) (pa_cons (pe_call G_due (hr.mono (by decide)) rfl m_due k_due b_due .nil pass0 (pa_cons (pv 9) (pa_cons (pv 12) pa_nil))) pa_nil))))) (pss_one (ps_ret pe_bl)) pss_nil)))))))
      (Evl.pss_cut (ps_set (i := 13) sc_right.nd rfl (by first | exact Or.inl rfl | exact Or.inr rfl) (pe_lst (pa_cons (pe_call G_pairs_in (hr.mono (by decide)) rfl m_pairs_in k_pairs_in b_pairs_in .nil pass0 (pa_cons pe_str pa_nil)) (pa_cons (pe_call G_pairs_in (hr.mono (by decide)) rfl m_pairs_in k_pairs_in b_pairs_in .nil pass0 (pa_cons (pe_ix (k_ix (K := K) rfl) (pv 4) pe_int (fun _ _ => rfl)) pa_nil)) pa_nil))))
      (Evl.pss_cut (ps_expr (k_bm (K := K) rfl PySem.F.plainAttrs_list PySem.F.slot_list_append PySem.F.type_list_append mt_append (pe_ix (k_ix (K := K) rfl) (pv 13) pe_int (fun _ _ => rfl)) (pa_cons pe_str pa_nil)))
      (Evl.pss_cut (ps_expr (k_bm (K := K) rfl PySem.F.plainAttrs_list PySem.F.slot_list_append PySem.F.type_list_append mt_append (pe_ix (k_ix (K := K) rfl) (pv 13) pe_int (fun _ _ => rfl)) (pa_cons pe_str pa_nil)))
      (pss_one (ps_ret (pe_call G_same (hr.mono (by decide)) rfl m_same k_same b_same .nil pass0 (pa_cons (pe_lst (pa_cons (pe_call G_pairs_in (hr.mono (by decide)) rfl m_pairs_in k_pairs_in b_pairs_in .nil pass0 (pa_cons pe_str pa_nil)) (pa_cons (pe_call G_pairs_in (hr.mono (by decide)) rfl m_pairs_in k_pairs_in b_pairs_in .nil pass0 (pa_cons (pe_ix (k_ix (K := K) rfl) (pv 4) pe_int (fun _ _ => rfl)) pa_nil)) (pa_cons (pe_call G_row_in (hr.mono (by decide)) rfl m_row_in k_row_in b_row_in .nil pass0 (pa_cons (pe_ix (k_ix (K := K) rfl) (pv 4) pe_int (fun _ _ => rfl)) pa_nil)) pa_nil)))) (pa_cons (pe_lst (pa_cons (pe_lst pa_nil) (pa_cons (pv 2) (pa_cons (pv 1) pa_nil)))) pa_nil)))))))))))))))))))), ?_⟩)
  exact finB (N := N_right) (by unfold f_right s_right_15 s_right_14 s_right_13 s_right_12 s_right_11 b_right_11 s_right_10 s_right_9 s_right_8 s_right_7 s_right_6 s_right_5 s_right_4 s_right_3 s_right_2 s_right_1 b_right_1 s_right_0; exact (OkS.cut (OkS.par (by decide) (OkE.w (OkW.e (OkW.callB (OkA.cons (OkE.con fun _ => .int _) OkA.nil)))) (OkW.lst OkA.nil))
      (OkS.cut (OkS.for (OkI.range1 (OkA.cons (OkW.e (OkW.callB (OkA.cons (OkE.con fun _ => .int _) OkA.nil))) OkA.nil)) (OkG.name 3) (by decide) (OkS.expr (OkE.mth ok_app (OkA.cons (OkE.tup (OkA.cons (OkW.e (OkW.callB (OkA.cons (OkE.con fun _ => .int _) OkA.nil))) (OkA.cons (OkW.e (OkW.callB (OkA.cons (OkE.op ok_pow (OkE.con fun _ => .int _) (OkE.con fun _ => .int _)) OkA.nil))) OkA.nil))) OkA.nil))))
      (OkS.cut (OkS.frz 2 (OkS.set (by decide) (OkE.w (OkE.lst (OkA.cons (OkW.e (OkW.call (OkA.cons (OkE.var 1) OkA.nil))) (OkA.cons (OkW.e (OkW.call (OkA.cons (OkE.var 2) OkA.nil))) OkA.nil))))))
      (OkS.cut (OkS.set (by decide) (OkE.w (OkE.lst (OkA.cons (OkW.e (OkW.call (OkA.cons (OkE.var 1) OkA.nil))) (OkA.cons (OkW.e (OkW.call (OkA.cons (OkE.var 2) OkA.nil))) (OkA.cons (OkW.e (OkW.callK (n := 1) (gD := fun ds => [0].map fun i => ds.getD i .none) (kw_da (by decide)) (OkA.cons (OkE.cb ok_list (OkA.cons (OkE.var 1) OkA.nil)) OkA.nil))) (OkA.cons (OkW.e (OkW.callK (n := 1) (gD := fun ds => [0].map fun i => ds.getD i .none) (kw_da (by decide)) (OkA.cons (OkE.cb ok_tuple (OkA.cons (OkW.e (OkW.call (OkA.cons (OkE.var 2) OkA.nil))) OkA.nil)) OkA.nil))) OkA.nil)))))))
      (OkS.cut (OkS.ife (OkT.not (OkT.val (OkW.e (OkW.call (OkA.cons (OkE.var 5) (OkA.cons (OkE.op ok_catL (OkE.var 4) (OkE.var 4)) OkA.nil)))))) (OkS.ret (OkE.w (OkE.con fun _ => .bl _))) OkS.nil)
      (OkS.cut (OkS.set (by decide) (OkE.w (OkE.lst (OkA.cons (OkE.con fun _ => .str _) (OkA.cons (OkE.con fun _ => .str _) (OkA.cons (OkE.con fun _ => .str _) (OkA.cons (OkE.con fun _ => .str _) (OkA.cons (OkE.con fun _ => .str _) (OkA.cons (OkE.con fun _ => .str _) (OkA.cons (OkE.con fun _ => .str _) (OkA.cons (OkE.con fun _ => .str _) (OkA.cons (OkE.con fun _ => .str _) (OkA.cons (OkE.con fun _ => .str _) (OkA.cons (OkE.con fun _ => .str _) (OkA.cons (OkE.con fun _ => .str _) (OkA.cons (OkE.con fun _ => .str _) (OkA.cons (OkE.con fun _ => .str _) (OkA.cons (OkE.con fun _ => .str _) (OkA.cons (OkE.con fun _ => .str _) (OkA.cons (OkE.con fun _ => .str _) OkA.nil))))))))))))))))))))
      (OkS.cut (OkS.set (by decide) (OkE.w (OkE.op ok_catL (OkE.var 6) (OkE.lst (OkA.cons (OkE.con fun _ => .str _) (OkA.cons (OkE.con fun _ => .str _) (OkA.cons (OkE.con fun _ => .str _) (OkA.cons (OkE.con fun _ => .str _) (OkA.cons (OkE.con fun _ => .str _) (OkA.cons (OkE.con fun _ => .str _) (OkA.cons (OkE.con fun _ => .str _) (OkA.cons (OkE.con fun _ => .str _) (OkA.cons (OkE.con fun _ => .str _) (OkA.cons (OkE.con fun _ => .str _) (OkA.cons (OkE.con fun _ => .str _) OkA.nil)))))))))))))))
      (OkS.cut (OkS.set (by decide) (OkE.w (OkE.op ok_catL (OkE.var 6) (OkE.lst (OkA.cons (OkE.con fun _ => .str _) (OkA.cons (OkE.con fun _ => .str _) OkA.nil))))))
      (OkS.cut (OkS.set (by decide) (OkE.w (OkE.op ok_catL (OkE.var 6) (OkE.lst (OkA.cons (OkE.con fun _ => .str _) (OkA.cons (OkE.con fun _ => .str _) (OkA.cons (OkE.con fun _ => .str _) (OkA.cons (OkE.con fun _ => .str _) (OkA.cons (OkE.con fun _ => .str _) (OkA.cons (OkE.con fun _ => .str _) (OkA.cons (OkE.con fun _ => .str _) OkA.nil)))))))))))
      (OkS.cut (OkS.set (by decide) (OkE.w (OkE.op ok_catL (OkE.var 6) (OkE.lst (OkA.cons (OkE.con fun _ => .str _) (OkA.cons (OkE.con fun _ => .str _) (OkA.cons (OkE.con fun _ => .str _) (OkA.cons (OkE.con fun _ => .str _) (OkA.cons (OkE.con fun _ => .str _) (OkA.cons (OkE.con fun _ => .str _) OkA.nil))))))))))
      (OkS.cut (OkS.set (by decide) (OkE.w (OkE.txM1 ok_join (OkE.con fun _ => .str _) (OkW.e (OkW.lc (vs := [8]) (OkI.range2 (OkA.cons (OkE.con fun _ => .int _) (OkA.cons (OkE.op ok_add (OkE.con fun _ => .int _) (OkW.e (OkW.callB (OkA.cons (OkE.con fun _ => .int _) OkA.nil)))) OkA.nil))) (OkG.name 8) (by decide) OkT.yes (OkE.cb ok_str (OkA.cons (OkE.var 8) OkA.nil)))))))
      (OkS.cut (OkS.for (OkI.range1 (OkA.cons (OkE.con fun _ => .int _) OkA.nil)) (OkG.name 9) (by decide) (OkS.cut (OkS.set (by decide) (OkW.cat (OkE.var 6) (OkE.lst (OkA.cons (OkE.var 7) (OkA.cons (OkE.op ok_catS (OkE.var 7) (OkE.con fun _ => .str _)) (OkA.cons (OkE.op ok_catS (OkE.var 7) (OkE.con fun _ => .str _)) OkA.nil))))))
      (OkS.cut (OkS.for (OkI.range1 (OkA.cons (OkE.con fun _ => .int _) OkA.nil)) (OkG.name 3) (by decide) (OkS.cut (OkS.set (by decide) (OkE.w (OkW.e (OkW.callB (OkA.cons (OkE.op ok_ix (OkE.var 4) (OkE.var 9)) OkA.nil)))))
      (OkS.expr (OkE.mth ok_app (OkA.cons (OkE.ife (OkT.test (OkE.op ok_eq (OkW.e (OkW.callB (OkA.cons (OkE.con fun _ => .int _) OkA.nil))) (OkE.con fun _ => .int _))) (OkW.e (OkW.callB (OkA.cons (OkE.var 11) OkA.nil))) (OkE.var 11)) OkA.nil)))))
      (OkS.for (OkI.seq (OkE.op ok_catL (OkE.var 10) (OkE.lst (OkA.cons (OkE.op ok_ix (OkE.var 4) (OkE.var 9)) OkA.nil)))) (OkG.name 12) (by decide) (OkS.ife (OkT.not (OkT.val (OkW.e (OkW.call (OkA.cons (OkW.e (OkW.call (OkA.cons (OkE.var 9) (OkA.cons (OkE.var 12) OkA.nil)))) (OkA.cons (OkW.e (OkW.call (OkA.cons (OkE.var 9) (OkA.cons (OkE.var 12) OkA.nil)))) OkA.nil)))))) (OkS.ret (OkE.w (OkE.con fun _ => .bl _))) OkS.nil)))))
      (OkS.cut (OkS.set (by decide) (OkW.lstN (OkV.cons (OkW.call (OkA.cons (OkE.con fun _ => .str _) OkA.nil)) (OkV.cons (OkW.call (OkA.cons (OkE.op ok_ix (OkE.var 4) (OkE.con fun _ => .int _)) OkA.nil)) OkV.nil))))
      (OkS.cut (OkS.expr (OkE.mthN (i := 13) (k := 0) ok_app fun _ => .str _))
      (OkS.cut (OkS.expr (OkE.mthN (i := 13) (k := 1) ok_app fun _ => .str _))
      (OkS.ret (OkE.w (OkW.e (OkW.call (OkA.cons (OkE.lst (OkA.cons (OkW.e (OkW.call (OkA.cons (OkE.con fun _ => .str _) OkA.nil))) (OkA.cons (OkW.e (OkW.call (OkA.cons (OkE.op ok_ix (OkE.var 4) (OkE.con fun _ => .int _)) OkA.nil))) (OkA.cons (OkW.e (OkW.call (OkA.cons (OkE.op ok_ix (OkE.var 4) (OkE.con fun _ => .int _)) OkA.nil))) OkA.nil)))) (OkA.cons (OkE.lst (OkA.cons (OkE.lst OkA.nil) (OkA.cons (OkE.var 2) (OkA.cons (OkE.var 1) OkA.nil)))) OkA.nil)))))))))))))))))))))) h
end
def b_law_0 (c : Ad) : M Fl :=
    (thenS (setS 2 (callA F_box (acons (get 0) (acons (get 1) anil))))
    (ifS (notT (tb1 (cb allD (acons (fz (lcW (argI rngD (acons (con (.int 3)) anil)) (gN 3) yesT (fz (callB 2 (F_right c) anil)) [3])) anil)))) (retS (pl (con (.bool false)))) nxt))
def s_law_0 (c : Ad) : M Fl :=
    (forS (argI rngD (acons (op2 addD (con (.int 1)) (cb minD (acons (con (.int 3)) (acons (cb lenD (acons (get 0) anil)) anil)))) anil)) (gN 1) (b_law_0 c))
def s_law_1 (c : Ad) : M Fl :=
    (retS (pl (con (.bool true))))
def f_law (c : Ad) : M Fl :=
    (thenS (s_law_0 c) (s_law_1 c))
def F_law (c : Ad) : List PyData → Option Wv := runA 1 4 (f_law c)
section
variable {P : Program} {w : World} {K : PySem.W.Frag} {mg : Str → Option Value} {base : Heap} {f : Addr} {fd : FuncData} {c : Ad}
theorem dk_law (F : Fun K "law" "law" S_law f fd) {g_box : Addr} {d_box : FuncData} (G_box : FnOk P w K mg base CX0 2 g_box d_box P_box (spA K F_box)) (b_box : Binds K d_box P_box []) (k_box : PySem.W.keepIn K (.ref g_box) = true) (m_box : mg "_law_box" = some (.ref g_box)) {g_right : Addr} {d_right : FuncData} (G_right : FnOk P w K mg base CX0 6 g_right d_right P_right (spB K (F_right c))) (b_right : Binds K d_right P_right []) (k_right : PySem.W.keepIn K (.ref g_right) = true) (m_right : mg "_law_right" = some (.ref g_right)) (B : Blt mg) (M : Mks P w K mg base c) : FnG P w K mg base 7 f fd P_law (spA K (F_law c)) := by
  refine Ov.Fun.okG F sc_law (fun vs H Q E h => lenA h) (fun cdv A outer s H vs Q E hG hr h => ⟨_, (Evl.pss_cut (ps_for PassesOwn.never rfl (pi_range1 rfl B.range (pa_cons (pe_op op_add pe_int (pe_callB (call_min2 rfl) rfl B.min (by decide +kernel) (pa_cons pe_int (pa_cons (pe_callB (k_len (K := K) rfl) rfl B.len PySem.boot_len (pa_cons (pv 0) pa_nil)) pa_nil)))) pa_nil)) (pg_name (i := 1) sc_law.nd rfl (by first | exact Or.inl rfl | exact Or.inr rfl))
      (Evl.pss_cut (ps_set (i := 2) sc_law.nd rfl (by first | exact Or.inl rfl | exact Or.inr rfl) (pe_call G_box (hr.mono (by decide)) rfl m_box k_box b_box .nil pass0 (pa_cons (pv 0) (pa_cons (pv 1) pa_nil))))
      (pss_one (ps_if (pt_not (pt_val (pe_callB (k_all (K := K) rfl rfl) rfl B.all (by decide +kernel) (pa_cons (pe_lc (own := [("_law_turn", 3)]) (g := (gName 3)) rfl sc_law.nd (pi_range1 rfl B.range (pa_cons pe_int pa_nil)) (blkOk_by (own := [("_law_turn", 3)]) (N := ["_law_script", "_law_k", "_law_box_here", "_law_turn"]) (sc := defScope S_law) (by decide +kernel)) (fun _ _ _ _ _ => by exact (pg_name (i := 3) sc_law.nd rfl (by first | exact Or.inl rfl | exact Or.inr rfl))) (fun _ _ _ _ _ => pts_nil) (fun _ _ _ _ _ => (pe_call G_right (hr.mono (by decide)) rfl m_right k_right b_right .nil pass0 (pa_cons (pv 2) pa_nil)))) pa_nil)))) (pss_one (ps_ret pe_bl)) pss_nil))))
      (pss_one (ps_ret pe_bl))), ?_⟩)
  exact finA (N := N_law) (by unfold f_law s_law_1 s_law_0 b_law_0; exact (OkS.cut (OkS.for (OkI.range1 (OkA.cons (OkE.op ok_add (OkE.con fun _ => .int _) (OkE.cb ok_min (OkA.cons (OkE.con fun _ => .int _) (OkA.cons (OkE.cb ok_len (OkA.cons (OkE.var 0) OkA.nil)) OkA.nil)))) OkA.nil)) (OkG.name 1) (fun z => z.elim0) (OkS.cut (OkS.set (fun z => z.elim0) (OkW.call (OkA.cons (OkE.var 0) (OkA.cons (OkE.var 1) OkA.nil))))
      (OkS.ife (OkT.not (OkT.val (OkE.cb ok_all (OkA.cons (OkW.e (OkW.lc (vs := [3]) (OkI.range1 (OkA.cons (OkE.con fun _ => .int _) OkA.nil)) (OkG.name 3) (by decide) OkT.yes (OkW.e (OkW.callB OkA.nil)))) OkA.nil)))) (OkS.ret (OkE.w (OkE.con fun _ => .bl _))) OkS.nil)))
      (OkS.ret (OkE.w (OkE.con fun _ => .bl _))))) h
end
end Ov
set_option Elab.async false
set_option linter.all false
set_option maxRecDepth 100000
set_option maxHeartbeats 4000000
namespace Ov
open PySem L2
def Bok (n : Int) (bs : List PyData) : Prop := ∃ b0 b1 b2 : Int, bs = [.int b0, .int b1, .int b2] ∧ 0 ≤ b0 ∧ 0 ≤ b1 ∧ b1 < 2 ^ 62 ∧ 0 ≤ b2 ∧ b2 ≤ n
theorem Bok.mono {n m : Int} {bs : List PyData} (h : Bok n bs) (e : n ≤ m) : Bok m bs := by
  obtain ⟨b0, b1, b2, rfl, p0, p1, p1', p2, p2'⟩ := h
  exact ⟨_, _, _, rfl, p0, p1, p1', p2, by omega⟩
theorem pMod_ok {i j : Int} (h : 0 < j) : pMod i j = true := decide_eq_true h
theorem pDiv_ok {i j : Int} (h : 0 < j) (h2 : j < 1073741824) : pDiv i j = true := decide_eq_true ⟨h, h2⟩
theorem pMul_r {i j : Int} (h : -(2 ^ 64) < j) (h2 : j < 2 ^ 64) : pMul i j = true := by
  unfold pMul
  rw [decide_eq_true (p := -(2 ^ 64) < j ∧ j < 2 ^ 64) ⟨h, h2⟩, Bool.or_true]
def tkV (b1 b2 below : Int) : Int := ((((((b1 + 48271 * (b2 + 1)) * (39373 + (b2 + 1))) % 2147483647 + (b2 + 1) + b1 / 1000003) * ((((b1 + 48271 * (b2 + 1)) * (39373 + (b2 + 1))) % 2147483647) % 40009 + 7)) % 2147483629 * 48271 + ((b1 + 48271 * (b2 + 1)) * (39373 + (b2 + 1))) % 2147483647) % 2147483587 / 64) % below
theorem take_small {n : Int} {bs : List PyData} {k : Nat} (h : Bok n bs) (hn : n ≤ 10 ^ 12) {below : Int} (h1 : 1 ≤ below) (h2 : below ≤ 10 ^ 7) : ∃ r bs', F_take (k + 1) bs [.int below] = some (.dat (.int r), bs') ∧ 0 ≤ r ∧ r < below ∧ Bok (n + 1) bs' := by
  obtain ⟨b0, b1, b2, rfl, p0, p1, p1', p2, p2'⟩ := h
  by_cases c0 : 0 < b0
  · refine ⟨b0 % below, [.int (b0 / below), .int b1, .int b2], runB_eq rfl ?_, Int.emod_nonneg _ (by omega), Int.emod_lt_of_pos _ (by omega), _, _, _, rfl, Int.ediv_nonneg p0 (by omega), p1, p1', p2, by omega⟩
    unfold f_take
    simp [env0, v_bind, v_ok, v_none, v_pure, v_lift, v_liftN, v_con, v_get, v_gkd, v_gko, v_gkc, v_vwd, v_vws, v_ok1, v_ownD, v_dctD, v_dk1, v_setOwn, v_putM, v_op2, v_op1, v_anil, v_acons, v_vws0, v_vwsC, v_cb, v_tupD, v_lstD, v_lstW, v_listW, v_dds0, v_ddsC, v_asB, v_tb1, v_andT, v_orT, v_notT, v_andV, v_orV, v_notV, v_ofB, v_ifE, v_pl, v_toW, v_fz, v_ofWd, v_ofWo, v_nxt, v_thenS, v_exprS, v_retS, v_retN, v_ifS, v_setS, v_parS, v_setIx, v_asD, v_asI, v_mthE, v_callA, v_callB, v_forS, v_argI, v_seqI, v_slD, v_poN, v_poS, v_isiE, v_isiE2, v_isNE, v_dnew, v_dinT, v_dputS, v_sortDct, v_rgE, v_rg2, v_unS, v_catW, v_chainE, v_add, v_sub, v_lt, v_le, v_gt, v_ge, v_eqI, v_eqB, v_eqS, v_ixL, v_ixT, v_lenL, v_lenT, v_abs, v_intI, v_intB, v_min, v_max, v_chk, c0, atI, ixN, v_mod, v_div, pMod_ok (show 0 < below by omega), pDiv_ok (show 0 < below by omega) (show below < 1073741824 by omega)]
  · have z : b0 = 0 := by omega
    have c1 : ¬ (10 : Int) ^ 7 < below := by omega
    have hp : pPow 10 7 = true := by decide
    refine ⟨tkV b1 b2 below, [.int 0, .int b1, .int (b2 + 1)], runB_eq rfl ?_, ?_, ?_, _, _, _, rfl, Int.le_refl _, p1, p1', by omega, by omega⟩
    · unfold f_take
      have q1 : pMul 48271 (b2 + 1) = true := by unfold pMul; simp
      have q2 : pMul (b1 + 48271 * (b2 + 1)) (39373 + (b2 + 1)) = true := pMul_r (by omega) (by omega)
      have q3 : ∀ x y : Int, pMul x (y % 40009 + 7) = true := fun x y => pMul_r (by omega) (by omega)
      have q4 : ∀ x : Int, pMul x 48271 = true := fun x => pMul_r (by decide) (by decide)
      have m1 : ∀ x : Int, pMod x 2147483647 = true := fun x => pMod_ok (by decide)
      have m2 : ∀ x : Int, pMod x 2147483629 = true := fun x => pMod_ok (by decide)
      have m3 : ∀ x : Int, pMod x 2147483587 = true := fun x => pMod_ok (by decide)
      have m4 : ∀ x : Int, pMod x 40009 = true := fun x => pMod_ok (by decide)
      have m5 : ∀ x : Int, pMod x below = true := fun x => pMod_ok (by omega)
      have d1 : ∀ x : Int, pDiv x 1000003 = true := fun x => pDiv_ok (by decide) (by decide)
      have d2 : ∀ x : Int, pDiv x 64 = true := fun x => pDiv_ok (by decide) (by decide)
      have c1' : ¬ (10000000 : Int) < below := by omega
      unfold tkV
      simp [env0, v_bind, v_ok, v_none, v_pure, v_lift, v_liftN, v_con, v_get, v_gkd, v_gko, v_gkc, v_vwd, v_vws, v_ok1, v_ownD, v_dctD, v_dk1, v_setOwn, v_putM, v_op2, v_op1, v_anil, v_acons, v_vws0, v_vwsC, v_cb, v_tupD, v_lstD, v_lstW, v_listW, v_dds0, v_ddsC, v_asB, v_tb1, v_andT, v_orT, v_notT, v_andV, v_orV, v_notV, v_ofB, v_ifE, v_pl, v_toW, v_fz, v_ofWd, v_ofWo, v_nxt, v_thenS, v_exprS, v_retS, v_retN, v_ifS, v_setS, v_parS, v_setIx, v_asD, v_asI, v_mthE, v_callA, v_callB, v_forS, v_argI, v_seqI, v_slD, v_poN, v_poS, v_isiE, v_isiE2, v_isNE, v_dnew, v_dinT, v_dputS, v_sortDct, v_rgE, v_rg2, v_unS, v_catW, v_chainE, v_add, v_sub, v_lt, v_le, v_gt, v_ge, v_eqI, v_eqB, v_eqS, v_ixL, v_ixT, v_lenL, v_lenT, v_abs, v_intI, v_intB, v_min, v_max, v_chk, z, c1, c1', atI, ixN, v_mod, v_div, v_mul, v_pow, hp, q1, q2, q3, q4, m1, m2, m3, m4, m5, d1, d2]
    · exact Int.emod_nonneg _ (by omega)
    · exact Int.emod_lt_of_pos _ (by omega)
theorem take_any {n : Int} {bs : List PyData} {k : Nat} (h : Bok n bs) (hn : n ≤ 10 ^ 11) {below : Int} (h1 : 1 ≤ below) (h2 : below < 1073741824) : ∃ r bs', F_take (k + 2) bs [.int below] = some (.dat (.int r), bs') ∧ 0 ≤ r ∧ r < below ∧ Bok (n + 2) bs' := by
  by_cases c : below ≤ 10 ^ 7
  · obtain ⟨r, bs', e, a, b, w⟩ := take_small (k := k + 1) h (by omega) h1 c
    exact ⟨r, bs', e, a, b, w.mono (by omega)⟩
  · by_cases c0 : ∃ b0 r, bs = .int b0 :: r ∧ 0 < b0
    · obtain ⟨b0, b1, b2, rfl, p0, p1, p1', p2, p2'⟩ := h
      obtain ⟨_, _, e, c0⟩ := c0
      cases e
      refine ⟨b0 % below, [.int (b0 / below), .int b1, .int b2], runB_eq rfl ?_, Int.emod_nonneg _ (by omega), Int.emod_lt_of_pos _ (by omega), _, _, _, rfl, Int.ediv_nonneg p0 (by omega), p1, p1', p2, by omega⟩
      unfold f_take
      simp [env0, v_bind, v_ok, v_none, v_pure, v_lift, v_liftN, v_con, v_get, v_gkd, v_gko, v_gkc, v_vwd, v_vws, v_ok1, v_ownD, v_dctD, v_dk1, v_setOwn, v_putM, v_op2, v_op1, v_anil, v_acons, v_vws0, v_vwsC, v_cb, v_tupD, v_lstD, v_lstW, v_listW, v_dds0, v_ddsC, v_asB, v_tb1, v_andT, v_orT, v_notT, v_andV, v_orV, v_notV, v_ofB, v_ifE, v_pl, v_toW, v_fz, v_ofWd, v_ofWo, v_nxt, v_thenS, v_exprS, v_retS, v_retN, v_ifS, v_setS, v_parS, v_setIx, v_asD, v_asI, v_mthE, v_callA, v_callB, v_forS, v_argI, v_seqI, v_slD, v_poN, v_poS, v_isiE, v_isiE2, v_isNE, v_dnew, v_dinT, v_dputS, v_sortDct, v_rgE, v_rg2, v_unS, v_catW, v_chainE, v_add, v_sub, v_lt, v_le, v_gt, v_ge, v_eqI, v_eqB, v_eqS, v_ixL, v_ixT, v_lenL, v_lenT, v_abs, v_intI, v_intB, v_min, v_max, v_chk, c0, atI, ixN, v_mod, v_div, pMod_ok (show 0 < below by omega), pDiv_ok (show 0 < below by omega) (show below < 1073741824 by omega)]
    · have h' := h
      obtain ⟨b0, b1, b2, rfl, p0, p1, p1', p2, p2'⟩ := h
      have z : ¬ 0 < b0 := fun z => c0 ⟨b0, _, rfl, z⟩
      obtain ⟨r1, bs1, e1, a1, w1, k1⟩ := take_small (k := k) h' (by omega) (below := 10 ^ 7) (by decide) (Int.le_refl _)
      obtain ⟨r2, bs2, e2, a2, w2, k2⟩ := take_small (k := k) k1 (by omega) (below := below / 10 ^ 7 + 1) (by omega) (by omega)
      refine ⟨(r1 + 10 ^ 7 * r2) % below, bs2, runB_eq rfl ?_, Int.emod_nonneg _ (by omega), Int.emod_lt_of_pos _ (by omega), k2.mono (by omega)⟩
      unfold f_take
      have hp : pPow 10 7 = true := by decide
      have c1 : (10000000 : Int) < below := by omega
      have e1' : F_take (k + 1) [.int b0, .int b1, .int b2] [.int 10000000] = some (.dat (.int r1), bs1) := e1
      have e2' : F_take (k + 1) bs1 [.int (below / 10000000 + 1)] = some (.dat (.int r2), bs2) := e2
      have m5 : ∀ x : Int, pMod x below = true := fun x => pMod_ok (by omega)
      have d1 : ∀ x : Int, pDiv x 10000000 = true := fun x => pDiv_ok (by decide) (by decide)
      have q1 : ∀ x : Int, pMul 10000000 x = true := fun x => by unfold pMul; simp
      simp [env0, v_bind, v_ok, v_none, v_pure, v_lift, v_liftN, v_con, v_get, v_gkd, v_gko, v_gkc, v_vwd, v_vws, v_ok1, v_ownD, v_dctD, v_dk1, v_setOwn, v_putM, v_op2, v_op1, v_anil, v_acons, v_vws0, v_vwsC, v_cb, v_tupD, v_lstD, v_lstW, v_listW, v_dds0, v_ddsC, v_asB, v_tb1, v_andT, v_orT, v_notT, v_andV, v_orV, v_notV, v_ofB, v_ifE, v_pl, v_toW, v_fz, v_ofWd, v_ofWo, v_nxt, v_thenS, v_exprS, v_retS, v_retN, v_ifS, v_setS, v_parS, v_setIx, v_asD, v_asI, v_mthE, v_callA, v_callB, v_forS, v_argI, v_seqI, v_slD, v_poN, v_poS, v_isiE, v_isiE2, v_isNE, v_dnew, v_dinT, v_dputS, v_sortDct, v_rgE, v_rg2, v_unS, v_catW, v_chainE, v_add, v_sub, v_lt, v_le, v_gt, v_ge, v_eqI, v_eqB, v_eqS, v_ixL, v_ixT, v_lenL, v_lenT, v_abs, v_intI, v_intB, v_min, v_max, v_chk, z, c1, atI, ixN, v_mod, v_div, v_mul, v_pow, hp, e1', e2', m5, d1, q1]
theorem of_ok {n : Int} {bs : List PyData} (h : Bok n bs) (hn : n ≤ 10 ^ 11) {ds : List PyData} (h1 : 1 ≤ ds.length) (h2 : ds.length ≤ 1000) : ∃ d bs', F_of bs [.list ds] = some (.dat d, bs') ∧ d ∈ ds ∧ Bok (n + 1) bs' := by
  obtain ⟨r, bs1, e1, a1, w1, k1⟩ := take_small (k := 1) h (by omega) (below := (ds.length : Int)) (by omega) (by omega)
  have hr : r.toNat < ds.length := by omega
  refine ⟨ds[r.toNat], bs1, runB_eq rfl ?_, List.getElem_mem hr, k1⟩
  unfold f_of
  have ea : atI ds r = some ds[r.toNat] := by
    unfold atI ixN
    rw [if_pos a1, if_pos w1]
    exact List.getElem?_eq_getElem hr
  simp [env0, v_bind, v_ok, v_none, v_pure, v_lift, v_liftN, v_con, v_get, v_gkd, v_gko, v_gkc, v_vwd, v_vws, v_ok1, v_ownD, v_dctD, v_dk1, v_setOwn, v_putM, v_op2, v_op1, v_anil, v_acons, v_vws0, v_vwsC, v_cb, v_tupD, v_lstD, v_lstW, v_listW, v_dds0, v_ddsC, v_asB, v_tb1, v_andT, v_orT, v_notT, v_andV, v_orV, v_notV, v_ofB, v_ifE, v_pl, v_toW, v_fz, v_ofWd, v_ofWo, v_nxt, v_thenS, v_exprS, v_retS, v_retN, v_ifS, v_setS, v_parS, v_setIx, v_asD, v_asI, v_mthE, v_callA, v_callB, v_forS, v_argI, v_seqI, v_slD, v_poN, v_poS, v_isiE, v_isiE2, v_isNE, v_dnew, v_dinT, v_dputS, v_sortDct, v_rgE, v_rg2, v_unS, v_catW, v_chainE, v_add, v_sub, v_lt, v_le, v_gt, v_ge, v_eqI, v_eqB, v_eqS, v_ixL, v_ixT, v_lenL, v_lenT, v_abs, v_intI, v_intB, v_min, v_max, v_chk, e1, ea]
theorem cell_ok {ns : List Int} {k : Int} (hk : 0 ≤ k) : ∃ c, F_cell_at [.list (ns.map .int), .int k] = some (.dat (.int c)) := by
  by_cases c : k < ns.length
  · have hr : k.toNat < ns.length := by omega
    refine ⟨ns[k.toNat], runA_eq rfl ?_⟩
    unfold f_cell_at s_cell_at_0 s_cell_at_1
    have ea : atI (ns.map PyData.int) k = some (.int ns[k.toNat]) := by
      unfold atI ixN
      rw [if_pos hk, List.length_map, if_pos c]
      simp [hr]
    simp [env0, v_bind, v_ok, v_none, v_pure, v_lift, v_liftN, v_con, v_get, v_gkd, v_gko, v_gkc, v_vwd, v_vws, v_ok1, v_ownD, v_dctD, v_dk1, v_setOwn, v_putM, v_op2, v_op1, v_anil, v_acons, v_vws0, v_vwsC, v_cb, v_tupD, v_lstD, v_lstW, v_listW, v_dds0, v_ddsC, v_asB, v_tb1, v_andT, v_orT, v_notT, v_andV, v_orV, v_notV, v_ofB, v_ifE, v_pl, v_toW, v_fz, v_ofWd, v_ofWo, v_nxt, v_thenS, v_exprS, v_retS, v_retN, v_ifS, v_setS, v_parS, v_setIx, v_asD, v_asI, v_mthE, v_callA, v_callB, v_forS, v_argI, v_seqI, v_slD, v_poN, v_poS, v_isiE, v_isiE2, v_isNE, v_dnew, v_dinT, v_dputS, v_sortDct, v_rgE, v_rg2, v_unS, v_catW, v_chainE, v_add, v_sub, v_lt, v_le, v_gt, v_ge, v_eqI, v_eqB, v_eqS, v_ixL, v_ixT, v_lenL, v_lenT, v_abs, v_intI, v_intB, v_min, v_max, v_chk, ea, c]
  · refine ⟨0, runA_eq rfl ?_⟩
    unfold f_cell_at s_cell_at_0 s_cell_at_1
    simp [env0, v_bind, v_ok, v_none, v_pure, v_lift, v_liftN, v_con, v_get, v_gkd, v_gko, v_gkc, v_vwd, v_vws, v_ok1, v_ownD, v_dctD, v_dk1, v_setOwn, v_putM, v_op2, v_op1, v_anil, v_acons, v_vws0, v_vwsC, v_cb, v_tupD, v_lstD, v_lstW, v_listW, v_dds0, v_ddsC, v_asB, v_tb1, v_andT, v_orT, v_notT, v_andV, v_orV, v_notV, v_ofB, v_ifE, v_pl, v_toW, v_fz, v_ofWd, v_ofWo, v_nxt, v_thenS, v_exprS, v_retS, v_retN, v_ifS, v_setS, v_parS, v_setIx, v_asD, v_asI, v_mthE, v_callA, v_callB, v_forS, v_argI, v_seqI, v_slD, v_poN, v_poS, v_isiE, v_isiE2, v_isNE, v_dnew, v_dinT, v_dputS, v_sortDct, v_rgE, v_rg2, v_unS, v_catW, v_chainE, v_add, v_sub, v_lt, v_le, v_gt, v_ge, v_eqI, v_eqB, v_eqS, v_ixL, v_ixT, v_lenL, v_lenT, v_abs, v_intI, v_intB, v_min, v_max, v_chk, c]
theorem box_ok {ns : List Int} {k : Int} (hk : 0 ≤ k) (hk2 : k ≤ 3) : ∃ bs, F_box [.list (ns.map .int), .int k] = some (.own (dats bs)) ∧ Bok 0 bs := by
  obtain ⟨c, hc⟩ := cell_ok (ns := ns) hk
  refine ⟨[.int ((if c < 0 then -c else c) * (if (10 : Int) ^ 18 ≤ (if c < 0 then -c else c) then 1 else 0)), .int (c % 2305843009213693951 + 39373 * k + 29), .int 0], runA_eq rfl ?_, _, _, _, rfl, ?_, ?_, ?_, Int.le_refl _, Int.le_refl _⟩
  · unfold f_box s_box_0 s_box_1
    have q1 : ∀ (x : Int) (b : Prop) [Decidable b], pMul x (if b then 1 else 0) = true := fun x b _ => by
      by_cases z : b
      · rw [if_pos z]; exact pMul_r (by decide) (by decide)
      · rw [if_neg z]; exact pMul_r (by decide) (by decide)
    have q2 : pMul 39373 k = true := pMul_r (by omega) (by omega)
    have hp : pPow 10 18 = true := by decide
    have m1 : ∀ x : Int, pMod x 2305843009213693951 = true := fun x => pMod_ok (by decide)
    simp [env0, v_bind, v_ok, v_none, v_pure, v_lift, v_liftN, v_con, v_get, v_gkd, v_gko, v_gkc, v_vwd, v_vws, v_ok1, v_ownD, v_dctD, v_dk1, v_setOwn, v_putM, v_op2, v_op1, v_anil, v_acons, v_vws0, v_vwsC, v_cb, v_tupD, v_lstD, v_lstW, v_listW, v_dds0, v_ddsC, v_asB, v_tb1, v_andT, v_orT, v_notT, v_andV, v_orV, v_notV, v_ofB, v_ifE, v_pl, v_toW, v_fz, v_ofWd, v_ofWo, v_nxt, v_thenS, v_exprS, v_retS, v_retN, v_ifS, v_setS, v_parS, v_setIx, v_asD, v_asI, v_mthE, v_callA, v_callB, v_forS, v_argI, v_seqI, v_slD, v_poN, v_poS, v_isiE, v_isiE2, v_isNE, v_dnew, v_dinT, v_dputS, v_sortDct, v_rgE, v_rg2, v_unS, v_catW, v_chainE, v_add, v_sub, v_lt, v_le, v_gt, v_ge, v_eqI, v_eqB, v_eqS, v_ixL, v_ixT, v_lenL, v_lenT, v_abs, v_intI, v_intB, v_min, v_max, v_chk, hc, v_mul, q1, q2, v_pow, hp, v_mod, m1, sz]
  · have : (0 : Int) ≤ if c < 0 then -c else c := by split <;> omega
    exact Int.mul_nonneg this (by split <;> omega)
  · omega
  · omega
end Ov
set_option Elab.async false
set_option linter.all false
set_option maxRecDepth 100000
set_option maxHeartbeats 4000000
namespace Ov
open PySem L2
theorem strewn_loop (w1 : Option Wv) (m : Nat) {k : Nat} {n : Int} {bs : List PyData} {l r : List Int} (hb : Bok n bs) (hn : n + m ≤ 10 ^ 10) (hl : l.length = m) (hr : m + r.length ≤ 500) (hk : m < k) :
    ∃ (q : List Int) (bs' : List PyData), whileM (tb1 (op2 (eqvD true) (get 2) (lstD anil))) (exprS (mthE 3 appD (acons (mthE 2 popD (acons (fz (callB 0 (F_take 2) (acons (cb lenD (acons (get 2) anil)) anil))) anil)) anil))) k
      [some (.own (dats bs)), w1, some (.own (dats (l.map .int))), some (.own (dats (r.map .int)))] = some (.ok .nx [some (.own (dats bs')), w1, some (.own (dats [])), some (.own (dats ((r ++ q).map .int)))]) ∧ q.Perm l ∧ Bok (n + m) bs' := by
  induction m generalizing k n bs l r with
  | zero =>
    obtain ⟨k, rfl⟩ : ∃ j, k = j + 1 := ⟨k - 1, by omega⟩
    have : l = [] := List.eq_nil_of_length_eq_zero hl
    subst this
    refine ⟨[], bs, (while_end (e := [some (.own (dats bs)), w1, some (.own (dats [])), some (.own (dats (r.map .int)))]) ?_).trans ?_, List.Perm.refl _, by simpa using hb⟩
    · have := ne_nil []
      simp only [List.map_nil] at this
      simp [v_bind, v_ok, v_none, v_pure, v_lift, v_liftN, v_con, v_get, v_gkd, v_gko, v_gkc, v_vwd, v_vws, v_ok1, v_ownD, v_dctD, v_dk1, v_setOwn, v_putM, v_op2, v_op1, v_anil, v_acons, v_vws0, v_vwsC, v_cb, v_tupD, v_lstD, v_lstW, v_listW, v_dds0, v_ddsC, v_asB, v_tb1, v_andT, v_orT, v_notT, v_andV, v_orV, v_notV, v_ofB, v_ifE, v_pl, v_toW, v_fz, v_ofWd, v_ofWo, v_nxt, v_thenS, v_exprS, v_retS, v_retN, v_ifS, v_setS, v_parS, v_setIx, v_asD, v_asI, v_mthE, v_callA, v_callB, v_forS, v_argI, v_seqI, v_slD, v_poN, v_poS, v_isiE, v_isiE2, v_isNE, v_dnew, v_dinT, v_dputS, v_sortDct, v_rgE, v_rg2, v_unS, v_catW, v_chainE, v_add, v_sub, v_lt, v_le, v_gt, v_ge, v_eqI, v_eqB, v_eqS, v_ixL, v_ixT, v_lenL, v_lenT, v_abs, v_intI, v_intB, v_min, v_max, v_chk, sz, this]
    · simp
  | succ m ih =>
    obtain ⟨k, rfl⟩ : ∃ j, k = j + 1 := ⟨k - 1, by omega⟩
    obtain ⟨x, bs1, e1, a1, b1, k1⟩ := take_small (k := 1) hb (by omega) (below := (l.length : Int)) (by omega) (by omega)
    have hx : x.toNat < l.length := by omega
    have hle : (l.eraseIdx x.toNat).length = m := by rw [List.length_eraseIdx, if_pos hx]; omega
    obtain ⟨q, bs2, e2, p2, k2⟩ := ih (k := k) (l := l.eraseIdx x.toNat) (r := r ++ [l[x.toNat]]) k1 (by omega) hle (by rw [List.length_append]; show m + (r.length + 1) ≤ 500; omega) (by omega)
    refine ⟨l[x.toNat] :: q, bs2, (while_go (e := [some (.own (dats bs)), w1, some (.own (dats (l.map .int))), some (.own (dats (r.map .int)))]) ?_ ?_).trans (e2.trans (by simp)), (p2.cons _).trans (erase_perm l _ _ (List.getElem?_eq_getElem hx)), k2.mono (by omega)⟩
    · have := ne_nil l
      have ne : l.isEmpty = false := by cases l with | nil => simp at hl | cons => rfl
      rw [ne] at this
      simp [v_bind, v_ok, v_none, v_pure, v_lift, v_liftN, v_con, v_get, v_gkd, v_gko, v_gkc, v_vwd, v_vws, v_ok1, v_ownD, v_dctD, v_dk1, v_setOwn, v_putM, v_op2, v_op1, v_anil, v_acons, v_vws0, v_vwsC, v_cb, v_tupD, v_lstD, v_lstW, v_listW, v_dds0, v_ddsC, v_asB, v_tb1, v_andT, v_orT, v_notT, v_andV, v_orV, v_notV, v_ofB, v_ifE, v_pl, v_toW, v_fz, v_ofWd, v_ofWo, v_nxt, v_thenS, v_exprS, v_retS, v_retN, v_ifS, v_setS, v_parS, v_setIx, v_asD, v_asI, v_mthE, v_callA, v_callB, v_forS, v_argI, v_seqI, v_slD, v_poN, v_poS, v_isiE, v_isiE2, v_isNE, v_dnew, v_dinT, v_dputS, v_sortDct, v_rgE, v_rg2, v_unS, v_catW, v_chainE, v_add, v_sub, v_lt, v_le, v_gt, v_ge, v_eqI, v_eqB, v_eqS, v_ixL, v_ixT, v_lenL, v_lenT, v_abs, v_intI, v_intB, v_min, v_max, v_chk, sz, this]
    · have hp : popD (l.map .int) [.int x] = some ((l.eraseIdx x.toNat).map .int, .int l[x.toNat]) := by
        unfold popD
        simp only
        rw [if_pos ⟨a1, by omega⟩, List.getElem?_map, List.getElem?_eq_getElem hx]
        simp [erase_map]
      have ha : appD (r.map PyData.int) [.int l[x.toNat]] = some ((r ++ [l[x.toNat]]).map .int, .none) := by
        rw [v_app _ _ (by rw [List.length_map]; omega)]
        simp
      have e1' : F_take 2 bs [.int ((l.map PyData.int).length : Nat)] = some (.dat (.int x), bs1) := by rw [List.length_map]; exact e1
      simp [v_bind, v_ok, v_none, v_pure, v_lift, v_liftN, v_con, v_get, v_gkd, v_gko, v_gkc, v_vwd, v_vws, v_ok1, v_ownD, v_dctD, v_dk1, v_setOwn, v_putM, v_op2, v_op1, v_anil, v_acons, v_vws0, v_vwsC, v_cb, v_tupD, v_lstD, v_lstW, v_listW, v_dds0, v_ddsC, v_asB, v_tb1, v_andT, v_orT, v_notT, v_andV, v_orV, v_notV, v_ofB, v_ifE, v_pl, v_toW, v_fz, v_ofWd, v_ofWo, v_nxt, v_thenS, v_exprS, v_retS, v_retN, v_ifS, v_setS, v_parS, v_setIx, v_asD, v_asI, v_mthE, v_callA, v_callB, v_forS, v_argI, v_seqI, v_slD, v_poN, v_poS, v_isiE, v_isiE2, v_isNE, v_dnew, v_dinT, v_dputS, v_sortDct, v_rgE, v_rg2, v_unS, v_catW, v_chainE, v_add, v_sub, v_lt, v_le, v_gt, v_ge, v_eqI, v_eqB, v_eqS, v_ixL, v_ixT, v_lenL, v_lenT, v_abs, v_intI, v_intB, v_min, v_max, v_chk, e1, hp, ha]
theorem strewn_ok {n : Int} {bs : List PyData} (h : Bok n bs) (hn : n ≤ 10 ^ 9) {ns : List Int} {d : PyData} (hd : d = .list (ns.map .int) ∨ d = .tuple (ns.map .int)) (h2 : ns.length ≤ 90) : ∃ (ms : List Int) (bs' : List PyData), F_strewn bs [d] = some (.own (dats (ms.map .int)), bs') ∧ ms.Perm ns ∧ Bok (n + 90) bs' := by
  obtain ⟨q, bs', e, p, k⟩ := strewn_loop (some (.dat d)) ns.length (k := 100) (l := ns) (r := []) h (by omega) rfl (by simp; omega) (by omega)
  refine ⟨q, bs', runB_eq rfl ?_, p, k.mono (by omega)⟩
  unfold f_strewn s_strewn_0 s_strewn_1 s_strewn_2
  have e' : whileM (tb1 (op2 (eqvD true) (get 2) (lstD anil))) (exprS (mthE 3 appD (acons (mthE 2 popD (acons (fz (callB 0 (F_take 2) (acons (cb lenD (acons (get 2) anil)) anil))) anil)) anil))) 100 [some (.own (dats bs)), some (.dat d), some (.own (dats (ns.map .int))), some (.own (dats []))] = some (.ok .nx [some (.own (dats bs')), some (.dat d), some (.own (dats [])), some (.own (dats (q.map .int)))]) := by simpa using e
  rcases hd with rfl | rfl
  · simp [env0, v_bind, v_ok, v_none, v_pure, v_lift, v_liftN, v_con, v_get, v_gkd, v_gko, v_gkc, v_vwd, v_vws, v_ok1, v_ownD, v_dctD, v_dk1, v_setOwn, v_putM, v_op2, v_op1, v_anil, v_acons, v_vws0, v_vwsC, v_cb, v_tupD, v_lstD, v_lstW, v_listW, v_dds0, v_ddsC, v_asB, v_tb1, v_andT, v_orT, v_notT, v_andV, v_orV, v_notV, v_ofB, v_ifE, v_pl, v_toW, v_fz, v_ofWd, v_ofWo, v_nxt, v_thenS, v_exprS, v_retS, v_retN, v_ifS, v_setS, v_parS, v_setIx, v_asD, v_asI, v_mthE, v_callA, v_callB, v_forS, v_argI, v_seqI, v_slD, v_poN, v_poS, v_isiE, v_isiE2, v_isNE, v_dnew, v_dinT, v_dputS, v_sortDct, v_rgE, v_rg2, v_unS, v_catW, v_chainE, v_add, v_sub, v_lt, v_le, v_gt, v_ge, v_eqI, v_eqB, v_eqS, v_ixL, v_ixT, v_lenL, v_lenT, v_abs, v_intI, v_intB, v_min, v_max, v_chk, seqD, sz, e', moveS]
  · simp [env0, v_bind, v_ok, v_none, v_pure, v_lift, v_liftN, v_con, v_get, v_gkd, v_gko, v_gkc, v_vwd, v_vws, v_ok1, v_ownD, v_dctD, v_dk1, v_setOwn, v_putM, v_op2, v_op1, v_anil, v_acons, v_vws0, v_vwsC, v_cb, v_tupD, v_lstD, v_lstW, v_listW, v_dds0, v_ddsC, v_asB, v_tb1, v_andT, v_orT, v_notT, v_andV, v_orV, v_notV, v_ofB, v_ifE, v_pl, v_toW, v_fz, v_ofWd, v_ofWo, v_nxt, v_thenS, v_exprS, v_retS, v_retN, v_ifS, v_setS, v_parS, v_setIx, v_asD, v_asI, v_mthE, v_callA, v_callB, v_forS, v_argI, v_seqI, v_slD, v_poN, v_poS, v_isiE, v_isiE2, v_isNE, v_dnew, v_dinT, v_dputS, v_sortDct, v_rgE, v_rg2, v_unS, v_catW, v_chainE, v_add, v_sub, v_lt, v_le, v_gt, v_ge, v_eqI, v_eqB, v_eqS, v_ixL, v_ixT, v_lenL, v_lenT, v_abs, v_intI, v_intB, v_min, v_max, v_chk, seqD, sz, e', moveS]
theorem souls_while {w0 w1 : Option Wv} {ks : List Int} {top c M : Int} (hM : M = if c > top then c else top) (h0 : 0 < M) (m : Nat) {k : Nat} {a : Int} {w4 : Option Wv} (h1 : (a + m) % M + 1 ∉ ks) (h2 : ∀ j : Nat, j < m → (a + j) % M + 1 ∈ ks) (hk : m < k) :
    whileM (dinT false 2 (get 5)) (setS 5 (pl (op2 addD (op2 modD (get 5) (cb maxD (acons (get 3) (acons (get 1) anil)))) (con (.int 1))))) k
      [w0, some (.dat (.int c)), some (.dct ks), some (.dat (.int top)), w4, some (.dat (.int (a % M + 1)))] = some (.ok .nx [w0, some (.dat (.int c)), some (.dct ks), some (.dat (.int top)), w4, some (.dat (.int ((a + m) % M + 1)))]) := by
  induction m generalizing k a with
  | zero =>
    obtain ⟨k, rfl⟩ : ∃ j, k = j + 1 := ⟨k - 1, by omega⟩
    refine (while_end (e := [w0, some (.dat (.int c)), some (.dct ks), some (.dat (.int top)), w4, some (.dat (.int (a % M + 1)))]) ?_).trans (by simp)
    have : a % M + 1 ∉ ks := by simpa using h1
    simp [v_bind, v_ok, v_none, v_pure, v_lift, v_liftN, v_con, v_get, v_gkd, v_gko, v_gkc, v_vwd, v_vws, v_ok1, v_ownD, v_dctD, v_dk1, v_setOwn, v_putM, v_op2, v_op1, v_anil, v_acons, v_vws0, v_vwsC, v_cb, v_tupD, v_lstD, v_lstW, v_listW, v_dds0, v_ddsC, v_asB, v_tb1, v_andT, v_orT, v_notT, v_andV, v_orV, v_notV, v_ofB, v_ifE, v_pl, v_toW, v_fz, v_ofWd, v_ofWo, v_nxt, v_thenS, v_exprS, v_retS, v_retN, v_ifS, v_setS, v_parS, v_setIx, v_asD, v_asI, v_mthE, v_callA, v_callB, v_forS, v_argI, v_seqI, v_slD, v_poN, v_poS, v_isiE, v_isiE2, v_isNE, v_dnew, v_dinT, v_dputS, v_sortDct, v_rgE, v_rg2, v_unS, v_catW, v_chainE, v_add, v_sub, v_lt, v_le, v_gt, v_ge, v_eqI, v_eqB, v_eqS, v_ixL, v_ixT, v_lenL, v_lenT, v_abs, v_intI, v_intB, v_min, v_max, v_chk, this]
  | succ m ih0 =>
    obtain ⟨k, rfl⟩ : ∃ j, k = j + 1 := ⟨k - 1, by omega⟩
    have ih := ih0 (k := k) (a := a + 1) (by rw [show a + 1 + (m : Int) = a + ((m + 1 : Nat) : Int) by omega]; exact h1) (fun j hj => by rw [show a + 1 + (j : Int) = a + ((j + 1 : Nat) : Int) by omega]; exact h2 (j + 1) (by omega)) (by omega)
    refine (while_go (e := [w0, some (.dat (.int c)), some (.dct ks), some (.dat (.int top)), w4, some (.dat (.int (a % M + 1)))]) ?_ ?_).trans (ih.trans (by rw [show a + 1 + (m : Int) = a + ((m + 1 : Nat) : Int) by omega]))
    · have : a % M + 1 ∈ ks := by simpa using h2 0 (by omega)
      simp [v_bind, v_ok, v_none, v_pure, v_lift, v_liftN, v_con, v_get, v_gkd, v_gko, v_gkc, v_vwd, v_vws, v_ok1, v_ownD, v_dctD, v_dk1, v_setOwn, v_putM, v_op2, v_op1, v_anil, v_acons, v_vws0, v_vwsC, v_cb, v_tupD, v_lstD, v_lstW, v_listW, v_dds0, v_ddsC, v_asB, v_tb1, v_andT, v_orT, v_notT, v_andV, v_orV, v_notV, v_ofB, v_ifE, v_pl, v_toW, v_fz, v_ofWd, v_ofWo, v_nxt, v_thenS, v_exprS, v_retS, v_retN, v_ifS, v_setS, v_parS, v_setIx, v_asD, v_asI, v_mthE, v_callA, v_callB, v_forS, v_argI, v_seqI, v_slD, v_poN, v_poS, v_isiE, v_isiE2, v_isNE, v_dnew, v_dinT, v_dputS, v_sortDct, v_rgE, v_rg2, v_unS, v_catW, v_chainE, v_add, v_sub, v_lt, v_le, v_gt, v_ge, v_eqI, v_eqB, v_eqS, v_ixL, v_ixT, v_lenL, v_lenT, v_abs, v_intI, v_intB, v_min, v_max, v_chk, this]
    · have e1 : pMod (a % M + 1) (if c > top then c else top) = true := by rw [← hM]; exact pMod_ok h0
      have e2 : (a % M + 1) % (if c > top then c else top) + 1 = (a + 1) % M + 1 := by rw [← hM]; exact step_mod h0
      simp only [gt_iff_lt] at e1 e2
      simp [v_bind, v_ok, v_none, v_pure, v_lift, v_liftN, v_con, v_get, v_gkd, v_gko, v_gkc, v_vwd, v_vws, v_ok1, v_ownD, v_dctD, v_dk1, v_setOwn, v_putM, v_op2, v_op1, v_anil, v_acons, v_vws0, v_vwsC, v_cb, v_tupD, v_lstD, v_lstW, v_listW, v_dds0, v_ddsC, v_asB, v_tb1, v_andT, v_orT, v_notT, v_andV, v_orV, v_notV, v_ofB, v_ifE, v_pl, v_toW, v_fz, v_ofWd, v_ofWo, v_nxt, v_thenS, v_exprS, v_retS, v_retN, v_ifS, v_setS, v_parS, v_setIx, v_asD, v_asI, v_mthE, v_callA, v_callB, v_forS, v_argI, v_seqI, v_slD, v_poN, v_poS, v_isiE, v_isiE2, v_isNE, v_dnew, v_dinT, v_dputS, v_sortDct, v_rgE, v_rg2, v_unS, v_catW, v_chainE, v_add, v_sub, v_lt, v_le, v_gt, v_ge, v_eqI, v_eqB, v_eqS, v_ixL, v_ixT, v_lenL, v_lenT, v_abs, v_intI, v_intB, v_min, v_max, v_chk, v_mod, e1, e2]
theorem souls_for {c top M : Int} (hM : M = if c > top then c else top) (ht : 0 ≤ top) (ht2 : top ≤ 10 ^ 9) (hc : c ≤ 16) (h0 : 0 ≤ c) (l : List Int) {n : Int} {bs : List PyData} {ks : List Int} {w4 w5 : Option Wv} (hb : Bok n bs) (hn : n + 2 * l.length ≤ 10 ^ 10) (hl : ks.length + l.length = c.toNat) (nd : ks.Nodup) (hk : ∀ x ∈ ks, 1 ≤ x ∧ x ≤ M) :
    ∃ (ks' : List Int) (bs' : List PyData) (u4 u5 : Option Wv), forM (gN 4) (thenS (setS 5 (pl (op2 addD (con (.int 1)) (fz (callB 0 (F_take 2) (acons (cb maxD (acons (con (.int 1)) (acons (get 3) anil))) anil)))))) (thenS (whileM (dinT false 2 (get 5)) (setS 5 (pl (op2 addD (op2 modD (get 5) (cb maxD (acons (get 3) (acons (get 1) anil)))) (con (.int 1))))) 100) (dputS 2 (get 5)))) (l.map .int)
      [some (.own (dats bs)), some (.dat (.int c)), some (.dct ks), some (.dat (.int top)), w4, w5] = some (.ok .nx [some (.own (dats bs')), some (.dat (.int c)), some (.dct ks'), some (.dat (.int top)), u4, u5]) ∧ ks'.Nodup ∧ (∀ x ∈ ks', 1 ≤ x ∧ x ≤ M) ∧ ks'.length = c.toNat ∧ Bok (n + 2 * l.length) bs' := by
  induction l generalizing n bs ks w4 w5 with
  | nil => exact ⟨ks, bs, w4, w5, rfl, nd, hk, by simpa using hl, by simpa using hb⟩
  | cons x l ih =>
    rw [List.length_cons] at hl hn
    have hm1 : (1 : Int) ≤ (if top > 1 then top else 1) := by split <;> omega
    have hm2 : (if top > 1 then top else 1) ≤ (10 : Int) ^ 9 := by split <;> omega
    obtain ⟨r, bs1, e1, a1, b1, k1⟩ := take_any (k := 0) hb (by omega) (below := if top > 1 then top else 1) hm1 (by omega)
    have hM0 : 0 < M := by rw [hM]; split <;> omega
    have hMr : 1 + r ≤ M := by
      have : (if top > 1 then top else 1) ≤ M := by rw [hM]; split <;> split <;> omega
      omega
    have hkl : (ks.length : Int) < M := by
      have : c ≤ M := by rw [hM]; split <;> omega
      omega
    obtain ⟨m, hm, f1, f2⟩ := free_first ks r M hkl
    have hr0 : r % M = r := Int.emod_eq_of_lt a1 (by omega)
    have wl := souls_while (w0 := some (.own (dats bs1))) (w1 := none) (ks := ks) (top := top) (c := c) hM hM0 m (k := 100) (a := r) (w4 := some (.dat (.int x))) f1 f2 (by omega)
    rw [hr0] at wl
    have hv1 : 1 ≤ (r + m) % M + 1 := by have := Int.emod_nonneg (r + (m : Int)) (show M ≠ 0 by omega); omega
    have hv2 : (r + m) % M + 1 ≤ M := by have := Int.emod_lt_of_pos (r + (m : Int)) hM0; omega
    obtain ⟨ks', bs2, u4, u5, e2, n2, q2, l2, k2⟩ := ih (n := n + 2) (bs := bs1) (ks := ks ++ [(r + m) % M + 1]) (w4 := some (.dat (.int x))) (w5 := some (.dat (.int ((r + m) % M + 1)))) k1 (by omega) (by rw [List.length_append]; show ks.length + 1 + l.length = _; omega)
      (List.nodup_append.mpr ⟨nd, by simp, fun y hy z hz => by rw [List.mem_singleton.mp hz]; exact fun e => f1 (e ▸ hy)⟩) (fun y hy => (List.mem_append.mp hy).elim (hk y) fun z => by rw [List.mem_singleton.mp z]; exact ⟨hv1, hv2⟩)
    refine ⟨ks', bs2, u4, u5, (for_go (e := [some (.own (dats bs)), some (.dat (.int c)), some (.dct ks), some (.dat (.int top)), some (.dat (.int x)), w5]) rfl ?_).trans e2, n2, q2, l2, k2.mono (by rw [List.length_cons]; omega)⟩
    rw [Int.add_comm r 1] at wl
    have pt : putT ks ((r + m) % M + 1) = ks ++ [(r + m) % M + 1] := if_neg f1
    have hlen : decide (ks.length < 1000) = true := decide_eq_true (by omega)
    simp only [gt_iff_lt] at e1
    simp [v_bind, v_ok, v_none, v_pure, v_lift, v_liftN, v_con, v_get, v_gkd, v_gko, v_gkc, v_vwd, v_vws, v_ok1, v_ownD, v_dctD, v_dk1, v_setOwn, v_putM, v_op2, v_op1, v_anil, v_acons, v_vws0, v_vwsC, v_cb, v_tupD, v_lstD, v_lstW, v_listW, v_dds0, v_ddsC, v_asB, v_tb1, v_andT, v_orT, v_notT, v_andV, v_orV, v_notV, v_ofB, v_ifE, v_pl, v_toW, v_fz, v_ofWd, v_ofWo, v_nxt, v_thenS, v_exprS, v_retS, v_retN, v_ifS, v_setS, v_parS, v_setIx, v_asD, v_asI, v_mthE, v_callA, v_callB, v_forS, v_argI, v_seqI, v_slD, v_poN, v_poS, v_isiE, v_isiE2, v_isNE, v_dnew, v_dinT, v_dputS, v_sortDct, v_rgE, v_rg2, v_unS, v_catW, v_chainE, v_add, v_sub, v_lt, v_le, v_gt, v_ge, v_eqI, v_eqB, v_eqS, v_ixL, v_ixT, v_lenL, v_lenT, v_abs, v_intI, v_intB, v_min, v_max, v_chk, e1, wl, pt, hlen]
theorem souls_ok {n : Int} {bs : List PyData} (h : Bok n bs) (hn : n ≤ 10 ^ 9) {c : Int} (h0 : 0 ≤ c) (h1 : c ≤ 16) : ∃ (ms : List Int) (bs' : List PyData), F_souls bs [.int c] = some (.dat (.list (ms.map .int)), bs') ∧ ms.Nodup ∧ ms.Pairwise (· ≤ ·) ∧ (∀ x ∈ ms, 1 ≤ x ∧ x ≤ 10 ^ 9) ∧ ms.length = c.toNat ∧ Bok (n + 40) bs' := by
  obtain ⟨d, bs1, e1, md, k1⟩ := of_ok h (by omega) (ds := [.int c, .int (3 * c + 1), .int (10 ^ 9)]) (by simp) (by simp)
  obtain ⟨top, rfl, t0, t1⟩ : ∃ top : Int, d = .int top ∧ 0 ≤ top ∧ top ≤ 10 ^ 9 := by
    simp only [List.mem_cons, List.not_mem_nil, or_false] at md
    rcases md with rfl | rfl | rfl
    · exact ⟨_, rfl, by omega, by omega⟩
    · exact ⟨_, rfl, by omega, by omega⟩
    · exact ⟨_, rfl, by decide, by decide⟩
  have hrl : (rngL 0 c).length = c.toNat := by simp [rngL]
  obtain ⟨ks, bs2, u4, u5, e2, nd, q, l2, k2⟩ := souls_for (c := c) (top := top) rfl t0 t1 h1 h0 (rngL 0 c) (n := n + 1) (bs := bs1) (ks := []) (w4 := none) (w5 := none) k1 (by rw [hrl]; omega) (by rw [hrl]; simp) List.nodup_nil (fun x hx => by cases hx)
  rw [hrl] at k2
  refine ⟨sortI ks, bs2, runB_eq rfl ?_, (sortI_perm ks).nodup_iff.mpr nd, sortI_pw ks, fun x hx => ?_, (sortI_perm ks).length_eq.trans l2, k2.mono (by omega)⟩
  · unfold f_souls s_souls_0 s_souls_1 s_souls_2 b_souls_1
    have q1 : pMul 3 c = true := pMul_r (by omega) (by omega)
    have hp : pPow 10 9 = true := by decide
    have e1' : F_of bs [.list [.int c, .int (3 * c + 1), .int 1000000000]] = some (.dat (.int top), bs1) := e1
    have rg : rngD [.int c] = some ((rngL 0 c).map .int) := if_pos ⟨by omega, by omega⟩
    have h64 : decide (ks.length < 64) = true := decide_eq_true (by omega)
    simp [env0, v_bind, v_ok, v_none, v_pure, v_lift, v_liftN, v_con, v_get, v_gkd, v_gko, v_gkc, v_vwd, v_vws, v_ok1, v_ownD, v_dctD, v_dk1, v_setOwn, v_putM, v_op2, v_op1, v_anil, v_acons, v_vws0, v_vwsC, v_cb, v_tupD, v_lstD, v_lstW, v_listW, v_dds0, v_ddsC, v_asB, v_tb1, v_andT, v_orT, v_notT, v_andV, v_orV, v_notV, v_ofB, v_ifE, v_pl, v_toW, v_fz, v_ofWd, v_ofWo, v_nxt, v_thenS, v_exprS, v_retS, v_retN, v_ifS, v_setS, v_parS, v_setIx, v_asD, v_asI, v_mthE, v_callA, v_callB, v_forS, v_argI, v_seqI, v_slD, v_poN, v_poS, v_isiE, v_isiE2, v_isNE, v_dnew, v_dinT, v_dputS, v_sortDct, v_rgE, v_rg2, v_unS, v_catW, v_chainE, v_add, v_sub, v_lt, v_le, v_gt, v_ge, v_eqI, v_eqB, v_eqS, v_ixL, v_ixT, v_lenL, v_lenT, v_abs, v_intI, v_intB, v_min, v_max, v_chk, v_mul, q1, v_pow, hp, sz, e1', rg, e2, h64]
  · have hx' := q x ((sortI_perm ks).mem_iff.mp hx)
    refine ⟨hx'.1, Int.le_trans hx'.2 ?_⟩
    split <;> omega
theorem ins_perm {l : List Int} {x : Int} (i : Nat) : (l.take i ++ [x] ++ l.drop i).Perm (x :: l) := by
  have h : (l.take i ++ [x] ++ l.drop i).Perm ([x] ++ (l.take i ++ l.drop i)) := by
    rw [List.append_assoc]
    exact List.perm_append_comm_assoc _ _ _
  rw [List.take_append_drop] at h
  exact h
theorem crowd_for {w1 w2 : Option Wv} (l : List Int) {n : Int} {bs : List PyData} {r : List Int} {w4 : Option Wv} (hb : Bok n bs) (hn : n + 2 * l.length ≤ 10 ^ 10) (hl : r.length + l.length ≤ 500) :
    ∃ (q : List Int) (bs' : List PyData) (u4 : Option Wv), forM (gN 4) (exprS (mthE 3 insD (acons (ifE (tb1 (op2 gtD (fz (callB 0 (F_take 2) (acons (con (.int 3)) anil))) (con (.int 0)))) (op2 divD (cb lenD (acons (get 3) anil)) (con (.int 2))) (fz (callB 0 (F_take 2) (acons (op2 addD (cb lenD (acons (get 3) anil)) (con (.int 1))) anil)))) (acons (get 4) anil)))) (l.map .int)
      [some (.own (dats bs)), w1, w2, some (.own (dats (r.map .int))), w4] = some (.ok .nx [some (.own (dats bs')), w1, w2, some (.own (dats (q.map .int))), u4]) ∧ q.Perm (r ++ l) ∧ Bok (n + 2 * l.length) bs' := by
  induction l generalizing n bs r w4 with
  | nil => exact ⟨r, bs, w4, rfl, by simp, by simpa using hb⟩
  | cons x l ih =>
    rw [List.length_cons] at hl hn
    obtain ⟨y, bs1, e1, a1, b1, k1⟩ := take_small (k := 1) hb (by omega) (below := 3) (by decide) (by decide)
    obtain ⟨i, bs2, hi0, hi1, k2, ev⟩ : ∃ (i : Int) (bs2 : List PyData), 0 ≤ i ∧ i ≤ r.length ∧ Bok (n + 2) bs2 ∧ ifE (tb1 (op2 gtD (fz (callB 0 (F_take 2) (acons (con (.int 3)) anil))) (con (.int 0)))) (op2 divD (cb lenD (acons (get 3) anil)) (con (.int 2))) (fz (callB 0 (F_take 2) (acons (op2 addD (cb lenD (acons (get 3) anil)) (con (.int 1))) anil)))
        [some (.own (dats bs)), w1, w2, some (.own (dats (r.map .int))), some (.dat (.int x))] = some (.ok (.dat (.int i)) [some (.own (dats bs2)), w1, w2, some (.own (dats (r.map .int))), some (.dat (.int x))]) := by
      by_cases z : 0 < y
      · refine ⟨(r.length : Int) / 2, bs1, by omega, by omega, k1.mono (by omega), ?_⟩
        have d1 : pDiv (r.length : Int) 2 = true := pDiv_ok (by decide) (by decide)
        simp [v_bind, v_ok, v_none, v_pure, v_lift, v_liftN, v_con, v_get, v_gkd, v_gko, v_gkc, v_vwd, v_vws, v_ok1, v_ownD, v_dctD, v_dk1, v_setOwn, v_putM, v_op2, v_op1, v_anil, v_acons, v_vws0, v_vwsC, v_cb, v_tupD, v_lstD, v_lstW, v_listW, v_dds0, v_ddsC, v_asB, v_tb1, v_andT, v_orT, v_notT, v_andV, v_orV, v_notV, v_ofB, v_ifE, v_pl, v_toW, v_fz, v_ofWd, v_ofWo, v_nxt, v_thenS, v_exprS, v_retS, v_retN, v_ifS, v_setS, v_parS, v_setIx, v_asD, v_asI, v_mthE, v_callA, v_callB, v_forS, v_argI, v_seqI, v_slD, v_poN, v_poS, v_isiE, v_isiE2, v_isNE, v_dnew, v_dinT, v_dputS, v_sortDct, v_rgE, v_rg2, v_unS, v_catW, v_chainE, v_add, v_sub, v_lt, v_le, v_gt, v_ge, v_eqI, v_eqB, v_eqS, v_ixL, v_ixT, v_lenL, v_lenT, v_abs, v_intI, v_intB, v_min, v_max, v_chk, e1, z, v_div, d1]
      · obtain ⟨i, bs2, e2, a2, b2, k2⟩ := take_small (k := 1) k1 (by omega) (below := (r.length : Int) + 1) (by omega) (by omega)
        refine ⟨i, bs2, a2, by omega, k2.mono (by omega), ?_⟩
        simp [v_bind, v_ok, v_none, v_pure, v_lift, v_liftN, v_con, v_get, v_gkd, v_gko, v_gkc, v_vwd, v_vws, v_ok1, v_ownD, v_dctD, v_dk1, v_setOwn, v_putM, v_op2, v_op1, v_anil, v_acons, v_vws0, v_vwsC, v_cb, v_tupD, v_lstD, v_lstW, v_listW, v_dds0, v_ddsC, v_asB, v_tb1, v_andT, v_orT, v_notT, v_andV, v_orV, v_notV, v_ofB, v_ifE, v_pl, v_toW, v_fz, v_ofWd, v_ofWo, v_nxt, v_thenS, v_exprS, v_retS, v_retN, v_ifS, v_setS, v_parS, v_setIx, v_asD, v_asI, v_mthE, v_callA, v_callB, v_forS, v_argI, v_seqI, v_slD, v_poN, v_poS, v_isiE, v_isiE2, v_isNE, v_dnew, v_dinT, v_dputS, v_sortDct, v_rgE, v_rg2, v_unS, v_catW, v_chainE, v_add, v_sub, v_lt, v_le, v_gt, v_ge, v_eqI, v_eqB, v_eqS, v_ixL, v_ixT, v_lenL, v_lenT, v_abs, v_intI, v_intB, v_min, v_max, v_chk, e1, z, e2]
    have hin : insD (r.map .int) [.int i, .int x] = some ((r.take i.toNat ++ [x] ++ r.drop i.toNat).map .int, .none) := by
      unfold insD
      simp only
      rw [if_pos ⟨hi0, by omega⟩, v_sz _ (by rw [List.length_map]; omega)]
      simp
    obtain ⟨q, bs3, u4, e3, p3, k3⟩ := ih (n := n + 2) (bs := bs2) (r := r.take i.toNat ++ [x] ++ r.drop i.toNat) (w4 := some (.dat (.int x))) k2 (by omega) (by rw [(ins_perm _).length_eq, List.length_cons]; omega)
    refine ⟨q, bs3, u4, (for_go (e := [some (.own (dats bs)), w1, w2, some (.own (dats (r.map .int))), some (.dat (.int x))]) rfl ?_).trans e3, ?_, k3.mono (by rw [List.length_cons]; omega)⟩
    · simp [v_bind, v_ok, v_none, v_pure, v_lift, v_liftN, v_con, v_get, v_gkd, v_gko, v_gkc, v_vwd, v_vws, v_ok1, v_ownD, v_dctD, v_dk1, v_setOwn, v_putM, v_op2, v_op1, v_anil, v_acons, v_vws0, v_vwsC, v_cb, v_tupD, v_lstD, v_lstW, v_listW, v_dds0, v_ddsC, v_asB, v_tb1, v_andT, v_orT, v_notT, v_andV, v_orV, v_notV, v_ofB, v_pl, v_toW, v_fz, v_ofWd, v_ofWo, v_nxt, v_thenS, v_exprS, v_retS, v_retN, v_ifS, v_setS, v_parS, v_setIx, v_asD, v_asI, v_mthE, v_callA, v_callB, v_forS, v_argI, v_seqI, v_slD, v_poN, v_poS, v_isiE, v_isiE2, v_isNE, v_dnew, v_dinT, v_dputS, v_sortDct, v_rgE, v_rg2, v_unS, v_catW, v_chainE, v_add, v_sub, v_lt, v_le, v_gt, v_ge, v_eqI, v_eqB, v_eqS, v_ixL, v_ixT, v_lenL, v_lenT, v_abs, v_intI, v_intB, v_min, v_max, v_chk, ev, hin]
    · refine p3.trans (((ins_perm _).append_right l).trans ?_)
      exact (List.perm_middle (a := x) (l₁ := r) (l₂ := l)).symm
/-- the rows of a law: different numbers from 1 -/
theorem crowd_ok {n : Int} {bs : List PyData} (h : Bok n bs) (hn : n ≤ 10 ^ 8) {c : Int} (h0 : 0 ≤ c) (h1 : c ≤ 16) : ∃ (ms : List Int) (bs' : List PyData), F_crowd bs [.int c] = some (.dat (.tuple (ms.map .int)), bs') ∧ ms.Nodup ∧ (∀ x ∈ ms, 1 ≤ x ∧ x ≤ 10 ^ 9) ∧ ms.length ≤ c.toNat ∧ Bok (n + 200) bs' := by
  obtain ⟨y, bs1, e1, a1, b1, k1⟩ := take_small (k := 1) h (by omega) (below := c + 1) (by omega) (by omega)
  obtain ⟨ss, bs2, e2, nd, pw, hs, hl, k2⟩ := souls_ok k1 (by omega) a1 (show y ≤ 16 by omega)
  obtain ⟨z, bs3, e3, a3, b3, k3⟩ := take_small (k := 1) k2 (by omega) (below := 2) (by decide) (by decide)
  by_cases hz : z = 0
  · obtain ⟨ms, bs4, e4, p4, k4⟩ := strewn_ok k3 (by omega) (ns := ss) (.inl rfl) (by omega)
    refine ⟨ms, bs4, runB_eq rfl ?_, p4.nodup_iff.mpr nd, fun x hx => hs x (p4.mem_iff.mp hx), by rw [p4.length_eq]; omega, k4.mono (by omega)⟩
    unfold f_crowd s_crowd_0 s_crowd_1 s_crowd_2 s_crowd_3 s_crowd_4 b_crowd_3
    simp [env0, v_bind, v_ok, v_none, v_pure, v_lift, v_liftN, v_con, v_get, v_gkd, v_gko, v_gkc, v_vwd, v_vws, v_ok1, v_ownD, v_dctD, v_dk1, v_setOwn, v_putM, v_op2, v_op1, v_anil, v_acons, v_vws0, v_vwsC, v_cb, v_tupD, v_lstD, v_lstW, v_listW, v_dds0, v_ddsC, v_asB, v_tb1, v_andT, v_orT, v_notT, v_andV, v_orV, v_notV, v_ofB, v_ifE, v_pl, v_toW, v_fz, v_ofWd, v_ofWo, v_nxt, v_thenS, v_exprS, v_retS, v_retN, v_ifS, v_setS, v_parS, v_setIx, v_asD, v_asI, v_mthE, v_callA, v_callB, v_forS, v_argI, v_seqI, v_slD, v_poN, v_poS, v_isiE, v_isiE2, v_isNE, v_dnew, v_dinT, v_dputS, v_sortDct, v_rgE, v_rg2, v_unS, v_catW, v_chainE, v_add, v_sub, v_lt, v_le, v_gt, v_ge, v_eqI, v_eqB, v_eqS, v_ixL, v_ixT, v_lenL, v_lenT, v_abs, v_intI, v_intB, v_min, v_max, v_chk, e1, e2, e3, hz, e4, tupleD, seqD]
  · obtain ⟨q, bs4, u4, e4, p4, k4⟩ := crowd_for (w1 := some (.dat (.int c))) (w2 := some (.dat (.list (ss.map .int)))) ss.reverse (n := n + 1 + 40 + 1) (bs := bs3) (r := []) (w4 := none) k3 (by rw [List.length_reverse]; omega) (by simp; omega)
    have p4' : q.Perm ss := by simpa using p4.trans (by simpa using List.reverse_perm ss)
    rw [List.length_reverse] at k4
    refine ⟨q, bs4, runB_eq rfl ?_, p4'.nodup_iff.mpr nd, fun x hx => hs x (p4'.mem_iff.mp hx), by rw [p4'.length_eq]; omega, k4.mono (by omega)⟩
    unfold f_crowd s_crowd_0 s_crowd_1 s_crowd_2 s_crowd_3 s_crowd_4 b_crowd_3
    have e4' := e4
    rw [List.map_reverse] at e4'
    simp only [List.map_nil] at e4'
    simp [env0, v_bind, v_ok, v_none, v_pure, v_lift, v_liftN, v_con, v_get, v_gkd, v_gko, v_gkc, v_vwd, v_vws, v_ok1, v_ownD, v_dctD, v_dk1, v_setOwn, v_putM, v_op2, v_op1, v_anil, v_acons, v_vws0, v_vwsC, v_cb, v_tupD, v_lstD, v_lstW, v_listW, v_dds0, v_ddsC, v_asB, v_tb1, v_andT, v_orT, v_notT, v_andV, v_orV, v_notV, v_ofB, v_ifE, v_pl, v_toW, v_fz, v_ofWd, v_ofWo, v_nxt, v_thenS, v_exprS, v_retS, v_retN, v_ifS, v_setS, v_parS, v_setIx, v_asD, v_asI, v_mthE, v_callA, v_callB, v_forS, v_argI, v_seqI, v_slD, v_poN, v_poS, v_isiE, v_isiE2, v_isNE, v_dnew, v_dinT, v_dputS, v_sortDct, v_rgE, v_rg2, v_unS, v_catW, v_chainE, v_add, v_sub, v_lt, v_le, v_gt, v_ge, v_eqI, v_eqB, v_eqS, v_ixL, v_ixT, v_lenL, v_lenT, v_abs, v_intI, v_intB, v_min, v_max, v_chk, e1, e2, e3, hz, revD, seqD, sz, e4', tupleD]
end Ov
set_option Elab.async false
set_option linter.all false
set_option maxRecDepth 100000
set_option maxHeartbeats 4000000
namespace Ov
open PySem L2
def isS : PyData → Bool
  | .str _ => true
  | _ => false
theorem v_kI (d : PyData) : kitD "int" d = some (isI d || isB d) := kit_int d
theorem v_kB (d : PyData) : kitD "bool" d = some (isB d) := kit_bool d
theorem v_kT (d : PyData) : kitD "tuple" d = some (isT d) := kit_tuple d
theorem v_kL (d : PyData) : kitD "list" d = some (isL d) := kit_list d
theorem v_kS : ∀ d : PyData, kitD "str" d = some (isS d)
  | .none => (by decide +kernel : kitB "NoneType" "str" = some false)
  | .bool _ => (by decide +kernel : kitB "bool" "str" = some false)
  | .int _ => (by decide +kernel : kitB "int" "str" = some false)
  | .str _ => (by decide +kernel : kitB "str" "str" = some true)
  | .list _ => (by decide +kernel : kitB "list" "str" = some false)
  | .tuple _ => (by decide +kernel : kitB "tuple" "str" = some false)
  | .dict _ => (by decide +kernel : kitB "dict" "str" = some false)
theorem is_number_ok (d : PyData) : F_is_number [d] = some (.dat (.bool (isI d))) := by
  refine runA_eq rfl ?_
  unfold f_is_number
  cases d <;> simp [env0, v_bind, v_ok, v_none, v_pure, v_lift, v_liftN, v_con, v_get, v_gkd, v_gko, v_gkc, v_vwd, v_vws, v_ok1, v_ownD, v_dctD, v_dk1, v_setOwn, v_putM, v_op2, v_op1, v_anil, v_acons, v_vws0, v_vwsC, v_cb, v_tupD, v_lstD, v_lstW, v_listW, v_dds0, v_ddsC, v_asB, v_tb1, v_andT, v_orT, v_notT, v_andV, v_orV, v_notV, v_ofB, v_ifE, v_pl, v_toW, v_fz, v_ofWd, v_ofWo, v_nxt, v_thenS, v_exprS, v_retS, v_retN, v_ifS, v_setS, v_parS, v_setIx, v_asD, v_asI, v_mthE, v_callA, v_callB, v_forS, v_argI, v_seqI, v_slD, v_poN, v_poS, v_isiE, v_isiE2, v_isNE, v_dnew, v_dinT, v_dputS, v_sortDct, v_rgE, v_rg2, v_unS, v_catW, v_chainE, v_add, v_sub, v_lt, v_le, v_gt, v_ge, v_eqI, v_eqB, v_eqS, v_ixL, v_ixT, v_lenL, v_lenT, v_abs, v_intI, v_intB, v_min, v_max, v_chk, v_kI, v_kB, isI, isB]
theorem bools_of (ds : List PyData) (g : PyData → Bool) : boolsD (ds.map fun d => .bool (g d)) = some (ds.map g) := by
  have := boolsD_map (ds.map g)
  rw [List.map_map] at this
  exact this
theorem all_id (ds : List PyData) (g : PyData → Bool) : (ds.map g).all id = ds.all g := by
  rw [List.all_map]
  rfl
theorem is_row_ok (d : PyData) (hl : ∀ ds, d = .tuple ds → ds.length ≤ 1000) : F_is_row [d] = some (.dat (.bool (isCrowd d))) := by
  refine runA_eq rfl ?_
  unfold f_is_row s_is_row_0 s_is_row_1 s_is_row_2
  cases d with
  | tuple ds =>
    have hn := hl ds rfl
    have cm : lcW (seqI (get 0)) (gN 1) yesT (andV (fz (callA F_is_number (acons (get 1) anil))) (op2 geD (get 1) (con (.int 1)))) [1] [some (.dat (.tuple ds)), none] = some (.ok (.own (dats (ds.map fun d => .bool (isH d)))) [some (.dat (.tuple ds)), none]) := by
      refine lc_eq (ds := ds) (e := [some (.dat (.tuple ds)), none]) (e2 := [some (.dat (.tuple ds)), none]) ?_ rfl rfl ?_
      · simp [v_bind, v_ok, v_none, v_pure, v_lift, v_liftN, v_con, v_get, v_gkd, v_gko, v_gkc, v_vwd, v_vws, v_ok1, v_ownD, v_dctD, v_dk1, v_setOwn, v_putM, v_op2, v_op1, v_anil, v_acons, v_vws0, v_vwsC, v_cb, v_tupD, v_lstD, v_lstW, v_listW, v_dds0, v_ddsC, v_asB, v_tb1, v_andT, v_orT, v_notT, v_andV, v_orV, v_notV, v_ofB, v_ifE, v_pl, v_toW, v_fz, v_ofWd, v_ofWo, v_nxt, v_thenS, v_exprS, v_retS, v_retN, v_ifS, v_setS, v_parS, v_setIx, v_asD, v_asI, v_mthE, v_callA, v_callB, v_forS, v_argI, v_seqI, v_slD, v_poN, v_poS, v_isiE, v_isiE2, v_isNE, v_dnew, v_dinT, v_dputS, v_sortDct, v_rgE, v_rg2, v_unS, v_catW, v_chainE, v_add, v_sub, v_lt, v_le, v_gt, v_ge, v_eqI, v_eqB, v_eqS, v_ixL, v_ixT, v_lenL, v_lenT, v_abs, v_intI, v_intB, v_min, v_max, v_chk, seqD]
      · have := comp_map (env := [some (.dat (.tuple ds)), none]) (p := gN 1) (ft := yesT) (fe := andV (fz (callA F_is_number (acons (get 1) anil))) (op2 geD (get 1) (con (.int 1)))) (vs := [1]) (fun d => .bool (isH d)) ds [] (by simp; omega) fun d hd => ⟨[some (.dat (.tuple ds)), some (.dat d)], rfl, rfl, ?_, rfl, rfl⟩
        · simpa using this
        · cases d <;> simp [v_bind, v_ok, v_none, v_pure, v_lift, v_liftN, v_con, v_get, v_gkd, v_gko, v_gkc, v_vwd, v_vws, v_ok1, v_ownD, v_dctD, v_dk1, v_setOwn, v_putM, v_op2, v_op1, v_anil, v_acons, v_vws0, v_vwsC, v_cb, v_tupD, v_lstD, v_lstW, v_listW, v_dds0, v_ddsC, v_asB, v_tb1, v_andT, v_orT, v_notT, v_andV, v_orV, v_notV, v_ofB, v_ifE, v_pl, v_toW, v_fz, v_ofWd, v_ofWo, v_nxt, v_thenS, v_exprS, v_retS, v_retN, v_ifS, v_setS, v_parS, v_setIx, v_asD, v_asI, v_mthE, v_callA, v_callB, v_forS, v_argI, v_seqI, v_slD, v_poN, v_poS, v_isiE, v_isiE2, v_isNE, v_dnew, v_dinT, v_dputS, v_sortDct, v_rgE, v_rg2, v_unS, v_catW, v_chainE, v_add, v_sub, v_lt, v_le, v_gt, v_ge, v_eqI, v_eqB, v_eqS, v_ixL, v_ixT, v_lenL, v_lenT, v_abs, v_intI, v_intB, v_min, v_max, v_chk, is_number_ok, isI, isH]
    have ea : allD [.list (ds.map fun d => .bool (isH d))] = some (.bool (ds.all isH)) := by
      show (boolsD _).map _ = _
      rw [bools_of]
      show some (PyData.bool ((ds.map isH).all id)) = _
      rw [all_id]
    cases ha : ds.all isH with
    | false =>
      have : isCrowd (.tuple ds) = false := by
        show (ds.all isH && _) = false
        rw [ha]
        rfl
      simp [env0, v_bind, v_ok, v_none, v_pure, v_lift, v_liftN, v_con, v_get, v_gkd, v_gko, v_gkc, v_vwd, v_vws, v_ok1, v_ownD, v_dctD, v_dk1, v_setOwn, v_putM, v_op2, v_op1, v_anil, v_acons, v_vws0, v_vwsC, v_cb, v_tupD, v_lstD, v_lstW, v_listW, v_dds0, v_ddsC, v_asB, v_tb1, v_andT, v_orT, v_notT, v_andV, v_orV, v_notV, v_ofB, v_ifE, v_pl, v_toW, v_fz, v_ofWd, v_ofWo, v_nxt, v_thenS, v_exprS, v_retS, v_retN, v_ifS, v_setS, v_parS, v_setIx, v_asD, v_asI, v_mthE, v_callA, v_callB, v_forS, v_argI, v_seqI, v_slD, v_poN, v_poS, v_isiE, v_isiE2, v_isNE, v_dnew, v_dinT, v_dputS, v_sortDct, v_rgE, v_rg2, v_unS, v_catW, v_chainE, v_add, v_sub, v_lt, v_le, v_gt, v_ge, v_eqI, v_eqB, v_eqS, v_ixL, v_ixT, v_lenL, v_lenT, v_abs, v_intI, v_intB, v_min, v_max, v_chk, v_kT, isT, cm, ea, ha, this]
    | true =>
      have ei := ints_all ha
      have el : ds.length = (intsOf ds).length := by
        have := congrArg List.length ei
        rwa [List.length_map] at this
      have es : lenSetD (.tuple ds) = some (.int (nub (intsOf ds)).length) := by
        show (intsD ds).bind _ = _
        rw [show intsD ds = some (intsOf ds) by rw [ei, intsD_map, ← ei]]
        show (if (intsOf ds).length ≤ 1000 then _ else _) = _
        rw [if_pos (by omega)]
      have ed := dedup_len (nub_nodup (intsOf ds)) fun k => nub_mem k (intsOf ds)
      have : isCrowd (.tuple ds) = decide (intsOf ds).Nodup := by
        show (ds.all isH && _) = _
        rw [ha]
        rfl
      have ed' : decide (((nub (intsOf ds)).length : Int) = (ds.length : Int)) = decide (intsOf ds).Nodup := by rw [el]; exact ed
      rw [this]
      simp only [env0, List.map_cons, List.map_nil]
      simp [v_bind, v_ok, v_none, v_pure, v_lift, v_liftN, v_con, v_get, v_gkd, v_gko, v_gkc, v_vwd, v_vws, v_ok1, v_ownD, v_dctD, v_dk1, v_setOwn, v_putM, v_op2, v_op1, v_anil, v_acons, v_vws0, v_vwsC, v_cb, v_tupD, v_lstD, v_lstW, v_listW, v_dds0, v_ddsC, v_asB, v_tb1, v_andT, v_orT, v_notT, v_andV, v_orV, v_notV, v_ofB, v_ifE, v_pl, v_toW, v_fz, v_ofWd, v_ofWo, v_nxt, v_thenS, v_exprS, v_retS, v_retN, v_ifS, v_setS, v_parS, v_setIx, v_asD, v_asI, v_mthE, v_callA, v_callB, v_forS, v_argI, v_seqI, v_slD, v_poN, v_poS, v_isiE, v_isiE2, v_isNE, v_dnew, v_dinT, v_dputS, v_sortDct, v_rgE, v_rg2, v_unS, v_catW, v_chainE, v_add, v_sub, v_lt, v_le, v_gt, v_ge, v_eqI, v_eqB, v_eqS, v_ixL, v_ixT, v_lenL, v_lenT, v_abs, v_intI, v_intB, v_min, v_max, v_chk, v_kT, isT, cm, ea, ha, es]
      simpa using ed'
  | none => simp [env0, v_bind, v_ok, v_none, v_pure, v_lift, v_liftN, v_con, v_get, v_gkd, v_gko, v_gkc, v_vwd, v_vws, v_ok1, v_ownD, v_dctD, v_dk1, v_setOwn, v_putM, v_op2, v_op1, v_anil, v_acons, v_vws0, v_vwsC, v_cb, v_tupD, v_lstD, v_lstW, v_listW, v_dds0, v_ddsC, v_asB, v_tb1, v_andT, v_orT, v_notT, v_andV, v_orV, v_notV, v_ofB, v_ifE, v_pl, v_toW, v_fz, v_ofWd, v_ofWo, v_nxt, v_thenS, v_exprS, v_retS, v_retN, v_ifS, v_setS, v_parS, v_setIx, v_asD, v_asI, v_mthE, v_callA, v_callB, v_forS, v_argI, v_seqI, v_slD, v_poN, v_poS, v_isiE, v_isiE2, v_isNE, v_dnew, v_dinT, v_dputS, v_sortDct, v_rgE, v_rg2, v_unS, v_catW, v_chainE, v_add, v_sub, v_lt, v_le, v_gt, v_ge, v_eqI, v_eqB, v_eqS, v_ixL, v_ixT, v_lenL, v_lenT, v_abs, v_intI, v_intB, v_min, v_max, v_chk, v_kT, isT, isCrowd]
  | bool _ => simp [env0, v_bind, v_ok, v_none, v_pure, v_lift, v_liftN, v_con, v_get, v_gkd, v_gko, v_gkc, v_vwd, v_vws, v_ok1, v_ownD, v_dctD, v_dk1, v_setOwn, v_putM, v_op2, v_op1, v_anil, v_acons, v_vws0, v_vwsC, v_cb, v_tupD, v_lstD, v_lstW, v_listW, v_dds0, v_ddsC, v_asB, v_tb1, v_andT, v_orT, v_notT, v_andV, v_orV, v_notV, v_ofB, v_ifE, v_pl, v_toW, v_fz, v_ofWd, v_ofWo, v_nxt, v_thenS, v_exprS, v_retS, v_retN, v_ifS, v_setS, v_parS, v_setIx, v_asD, v_asI, v_mthE, v_callA, v_callB, v_forS, v_argI, v_seqI, v_slD, v_poN, v_poS, v_isiE, v_isiE2, v_isNE, v_dnew, v_dinT, v_dputS, v_sortDct, v_rgE, v_rg2, v_unS, v_catW, v_chainE, v_add, v_sub, v_lt, v_le, v_gt, v_ge, v_eqI, v_eqB, v_eqS, v_ixL, v_ixT, v_lenL, v_lenT, v_abs, v_intI, v_intB, v_min, v_max, v_chk, v_kT, isT, isCrowd]
  | int _ => simp [env0, v_bind, v_ok, v_none, v_pure, v_lift, v_liftN, v_con, v_get, v_gkd, v_gko, v_gkc, v_vwd, v_vws, v_ok1, v_ownD, v_dctD, v_dk1, v_setOwn, v_putM, v_op2, v_op1, v_anil, v_acons, v_vws0, v_vwsC, v_cb, v_tupD, v_lstD, v_lstW, v_listW, v_dds0, v_ddsC, v_asB, v_tb1, v_andT, v_orT, v_notT, v_andV, v_orV, v_notV, v_ofB, v_ifE, v_pl, v_toW, v_fz, v_ofWd, v_ofWo, v_nxt, v_thenS, v_exprS, v_retS, v_retN, v_ifS, v_setS, v_parS, v_setIx, v_asD, v_asI, v_mthE, v_callA, v_callB, v_forS, v_argI, v_seqI, v_slD, v_poN, v_poS, v_isiE, v_isiE2, v_isNE, v_dnew, v_dinT, v_dputS, v_sortDct, v_rgE, v_rg2, v_unS, v_catW, v_chainE, v_add, v_sub, v_lt, v_le, v_gt, v_ge, v_eqI, v_eqB, v_eqS, v_ixL, v_ixT, v_lenL, v_lenT, v_abs, v_intI, v_intB, v_min, v_max, v_chk, v_kT, isT, isCrowd]
  | str _ => simp [env0, v_bind, v_ok, v_none, v_pure, v_lift, v_liftN, v_con, v_get, v_gkd, v_gko, v_gkc, v_vwd, v_vws, v_ok1, v_ownD, v_dctD, v_dk1, v_setOwn, v_putM, v_op2, v_op1, v_anil, v_acons, v_vws0, v_vwsC, v_cb, v_tupD, v_lstD, v_lstW, v_listW, v_dds0, v_ddsC, v_asB, v_tb1, v_andT, v_orT, v_notT, v_andV, v_orV, v_notV, v_ofB, v_ifE, v_pl, v_toW, v_fz, v_ofWd, v_ofWo, v_nxt, v_thenS, v_exprS, v_retS, v_retN, v_ifS, v_setS, v_parS, v_setIx, v_asD, v_asI, v_mthE, v_callA, v_callB, v_forS, v_argI, v_seqI, v_slD, v_poN, v_poS, v_isiE, v_isiE2, v_isNE, v_dnew, v_dinT, v_dputS, v_sortDct, v_rgE, v_rg2, v_unS, v_catW, v_chainE, v_add, v_sub, v_lt, v_le, v_gt, v_ge, v_eqI, v_eqB, v_eqS, v_ixL, v_ixT, v_lenL, v_lenT, v_abs, v_intI, v_intB, v_min, v_max, v_chk, v_kT, isT, isCrowd]
  | list _ => simp [env0, v_bind, v_ok, v_none, v_pure, v_lift, v_liftN, v_con, v_get, v_gkd, v_gko, v_gkc, v_vwd, v_vws, v_ok1, v_ownD, v_dctD, v_dk1, v_setOwn, v_putM, v_op2, v_op1, v_anil, v_acons, v_vws0, v_vwsC, v_cb, v_tupD, v_lstD, v_lstW, v_listW, v_dds0, v_ddsC, v_asB, v_tb1, v_andT, v_orT, v_notT, v_andV, v_orV, v_notV, v_ofB, v_ifE, v_pl, v_toW, v_fz, v_ofWd, v_ofWo, v_nxt, v_thenS, v_exprS, v_retS, v_retN, v_ifS, v_setS, v_parS, v_setIx, v_asD, v_asI, v_mthE, v_callA, v_callB, v_forS, v_argI, v_seqI, v_slD, v_poN, v_poS, v_isiE, v_isiE2, v_isNE, v_dnew, v_dinT, v_dputS, v_sortDct, v_rgE, v_rg2, v_unS, v_catW, v_chainE, v_add, v_sub, v_lt, v_le, v_gt, v_ge, v_eqI, v_eqB, v_eqS, v_ixL, v_ixT, v_lenL, v_lenT, v_abs, v_intI, v_intB, v_min, v_max, v_chk, v_kT, isT, isCrowd]
  | dict _ => simp [env0, v_bind, v_ok, v_none, v_pure, v_lift, v_liftN, v_con, v_get, v_gkd, v_gko, v_gkc, v_vwd, v_vws, v_ok1, v_ownD, v_dctD, v_dk1, v_setOwn, v_putM, v_op2, v_op1, v_anil, v_acons, v_vws0, v_vwsC, v_cb, v_tupD, v_lstD, v_lstW, v_listW, v_dds0, v_ddsC, v_asB, v_tb1, v_andT, v_orT, v_notT, v_andV, v_orV, v_notV, v_ofB, v_ifE, v_pl, v_toW, v_fz, v_ofWd, v_ofWo, v_nxt, v_thenS, v_exprS, v_retS, v_retN, v_ifS, v_setS, v_parS, v_setIx, v_asD, v_asI, v_mthE, v_callA, v_callB, v_forS, v_argI, v_seqI, v_slD, v_poN, v_poS, v_isiE, v_isiE2, v_isNE, v_dnew, v_dinT, v_dputS, v_sortDct, v_rgE, v_rg2, v_unS, v_catW, v_chainE, v_add, v_sub, v_lt, v_le, v_gt, v_ge, v_eqI, v_eqB, v_eqS, v_ixL, v_ixT, v_lenL, v_lenT, v_abs, v_intI, v_intB, v_min, v_max, v_chk, v_kT, isT, isCrowd]
/-! the same data, twice -/
def okS : Nat → PyData → Prop
  | 0, _ => False
  | n + 1, d => (atomD d = true ∧ shp d = true) ∨ ∃ ds : List PyData, (d = .list ds ∨ d = .tuple ds) ∧ ds.length < 1000 ∧ ∀ x ∈ ds, okS n x
theorem eqv_atom {d : PyData} (h : atomD d = true) : PyData.eqv d d = true := by
  cases d with
  | none => rfl
  | bool b => simp [PyData.eqv]
  | int i => simp [PyData.eqv]
  | str s => simp [PyData.eqv]
  | list _ => cases h
  | tuple _ => cases h
  | dict _ => cases h
theorem pair_self : ∀ ds : List PyData, pairUp ds ds = ds.map fun x => .tuple [x, x]
  | [] => rfl
  | d :: r => by
    show .tuple [d, d] :: pairUp r r = _
    rw [pair_self r]
    rfl
theorem same_ok : ∀ {n : Nat} {d : PyData}, okS n d → F_same n [d, d] = some (.dat (.bool true)) := by
  intro n
  induction n with
  | zero => intro d h; exact h.elim
  | succ n ih =>
    intro d h
    refine runA_eq rfl ?_
    unfold f_same
    rcases h with ⟨ha, hs⟩ | ⟨ds, hd, hl, hx⟩
    · have eq : eqvD false d d = some (.bool true) := by
        unfold eqvD
        rw [hs, eqv_atom ha]
        rfl
      cases d with
      | none => simp [env0, v_bind, v_ok, v_none, v_pure, v_lift, v_liftN, v_con, v_get, v_gkd, v_gko, v_gkc, v_vwd, v_vws, v_ok1, v_ownD, v_dctD, v_dk1, v_setOwn, v_putM, v_op2, v_op1, v_anil, v_acons, v_vws0, v_vwsC, v_cb, v_tupD, v_lstD, v_lstW, v_listW, v_dds0, v_ddsC, v_asB, v_tb1, v_andT, v_orT, v_notT, v_andV, v_orV, v_notV, v_ofB, v_ifE, v_pl, v_toW, v_fz, v_ofWd, v_ofWo, v_nxt, v_thenS, v_exprS, v_retS, v_retN, v_ifS, v_setS, v_parS, v_setIx, v_asD, v_asI, v_mthE, v_callA, v_callB, v_forS, v_argI, v_seqI, v_slD, v_poN, v_poS, v_isiE, v_isiE2, v_isNE, v_dnew, v_dinT, v_dputS, v_sortDct, v_rgE, v_rg2, v_unS, v_catW, v_chainE, v_add, v_sub, v_lt, v_le, v_gt, v_ge, v_eqI, v_eqB, v_eqS, v_ixL, v_ixT, v_lenL, v_lenT, v_abs, v_intI, v_intB, v_min, v_max, v_chk, v_kI, v_kB, v_kT, v_kL, v_kS, isI, isB, isT, isL, isS, eq, isNR]
      | bool b => simp [env0, v_bind, v_ok, v_none, v_pure, v_lift, v_liftN, v_con, v_get, v_gkd, v_gko, v_gkc, v_vwd, v_vws, v_ok1, v_ownD, v_dctD, v_dk1, v_setOwn, v_putM, v_op2, v_op1, v_anil, v_acons, v_vws0, v_vwsC, v_cb, v_tupD, v_lstD, v_lstW, v_listW, v_dds0, v_ddsC, v_asB, v_tb1, v_andT, v_orT, v_notT, v_andV, v_orV, v_notV, v_ofB, v_ifE, v_pl, v_toW, v_fz, v_ofWd, v_ofWo, v_nxt, v_thenS, v_exprS, v_retS, v_retN, v_ifS, v_setS, v_parS, v_setIx, v_asD, v_asI, v_mthE, v_callA, v_callB, v_forS, v_argI, v_seqI, v_slD, v_poN, v_poS, v_isiE, v_isiE2, v_isNE, v_dnew, v_dinT, v_dputS, v_sortDct, v_rgE, v_rg2, v_unS, v_catW, v_chainE, v_add, v_sub, v_lt, v_le, v_gt, v_ge, v_eqI, v_eqB, v_eqS, v_ixL, v_ixT, v_lenL, v_lenT, v_abs, v_intI, v_intB, v_min, v_max, v_chk, v_kI, v_kB, v_kT, v_kL, v_kS, isI, isB, isT, isL, isS, eq, isNR]
      | int i => simp [env0, v_bind, v_ok, v_none, v_pure, v_lift, v_liftN, v_con, v_get, v_gkd, v_gko, v_gkc, v_vwd, v_vws, v_ok1, v_ownD, v_dctD, v_dk1, v_setOwn, v_putM, v_op2, v_op1, v_anil, v_acons, v_vws0, v_vwsC, v_cb, v_tupD, v_lstD, v_lstW, v_listW, v_dds0, v_ddsC, v_asB, v_tb1, v_andT, v_orT, v_notT, v_andV, v_orV, v_notV, v_ofB, v_ifE, v_pl, v_toW, v_fz, v_ofWd, v_ofWo, v_nxt, v_thenS, v_exprS, v_retS, v_retN, v_ifS, v_setS, v_parS, v_setIx, v_asD, v_asI, v_mthE, v_callA, v_callB, v_forS, v_argI, v_seqI, v_slD, v_poN, v_poS, v_isiE, v_isiE2, v_isNE, v_dnew, v_dinT, v_dputS, v_sortDct, v_rgE, v_rg2, v_unS, v_catW, v_chainE, v_add, v_sub, v_lt, v_le, v_gt, v_ge, v_eqI, v_eqB, v_eqS, v_ixL, v_ixT, v_lenL, v_lenT, v_abs, v_intI, v_intB, v_min, v_max, v_chk, v_kI, v_kB, v_kT, v_kL, v_kS, isI, isB, isT, isL, isS, eq, isNR]
      | str s => simp [env0, v_bind, v_ok, v_none, v_pure, v_lift, v_liftN, v_con, v_get, v_gkd, v_gko, v_gkc, v_vwd, v_vws, v_ok1, v_ownD, v_dctD, v_dk1, v_setOwn, v_putM, v_op2, v_op1, v_anil, v_acons, v_vws0, v_vwsC, v_cb, v_tupD, v_lstD, v_lstW, v_listW, v_dds0, v_ddsC, v_asB, v_tb1, v_andT, v_orT, v_notT, v_andV, v_orV, v_notV, v_ofB, v_ifE, v_pl, v_toW, v_fz, v_ofWd, v_ofWo, v_nxt, v_thenS, v_exprS, v_retS, v_retN, v_ifS, v_setS, v_parS, v_setIx, v_asD, v_asI, v_mthE, v_callA, v_callB, v_forS, v_argI, v_seqI, v_slD, v_poN, v_poS, v_isiE, v_isiE2, v_isNE, v_dnew, v_dinT, v_dputS, v_sortDct, v_rgE, v_rg2, v_unS, v_catW, v_chainE, v_add, v_sub, v_lt, v_le, v_gt, v_ge, v_eqI, v_eqB, v_eqS, v_ixL, v_ixT, v_lenL, v_lenT, v_abs, v_intI, v_intB, v_min, v_max, v_chk, v_kI, v_kB, v_kT, v_kL, v_kS, isI, isB, isT, isL, isS, eq, isNR]
      | list _ => cases ha
      | tuple _ => cases ha
      | dict _ => cases ha
    · have cm : ∀ d : PyData, zipD [d, d] = some (pairUp ds ds) → lcW (argI zipD (acons (get 0) (acons (get 1) anil))) (gT (gsC (gN 2) (gsC (gN 3) gsN))) yesT (fz (callA (F_same n) (acons (get 2) (acons (get 3) anil)))) [2, 3] [some (.dat d), some (.dat d), none, none] =
          some (.ok (.own (dats (ds.map fun _ => .bool true))) [some (.dat d), some (.dat d), none, none]) := fun d hz => by
        refine lc_eq (ds := pairUp ds ds) (e := [some (.dat d), some (.dat d), none, none]) (e2 := [some (.dat d), some (.dat d), none, none]) ?_ rfl rfl ?_
        · simp [v_bind, v_ok, v_none, v_pure, v_lift, v_liftN, v_con, v_get, v_gkd, v_gko, v_gkc, v_vwd, v_vws, v_ok1, v_ownD, v_dctD, v_dk1, v_setOwn, v_putM, v_op2, v_op1, v_anil, v_acons, v_vws0, v_vwsC, v_cb, v_tupD, v_lstD, v_lstW, v_listW, v_dds0, v_ddsC, v_asB, v_tb1, v_andT, v_orT, v_notT, v_andV, v_orV, v_notV, v_ofB, v_ifE, v_pl, v_toW, v_fz, v_ofWd, v_ofWo, v_nxt, v_thenS, v_exprS, v_retS, v_retN, v_ifS, v_setS, v_parS, v_setIx, v_asD, v_asI, v_mthE, v_callA, v_callB, v_forS, v_argI, v_seqI, v_slD, v_poN, v_poS, v_isiE, v_isiE2, v_isNE, v_dnew, v_dinT, v_dputS, v_sortDct, v_rgE, v_rg2, v_unS, v_catW, v_chainE, v_add, v_sub, v_lt, v_le, v_gt, v_ge, v_eqI, v_eqB, v_eqS, v_ixL, v_ixT, v_lenL, v_lenT, v_abs, v_intI, v_intB, v_min, v_max, v_chk, hz]
        · rw [pair_self]
          have := comp_map (env := [some (.dat d), some (.dat d), none, none]) (p := gT (gsC (gN 2) (gsC (gN 3) gsN))) (ft := yesT) (fe := fz (callA (F_same n) (acons (get 2) (acons (get 3) anil)))) (vs := [2, 3]) (fun _ => .bool true) (ds.map fun x => .tuple [x, x]) [] (by simp; omega) fun x hx' => ?_
          · simpa [Function.comp_def] using this
          · obtain ⟨y, hy, rfl⟩ := List.mem_map.mp hx'
            exact ⟨[some (.dat d), some (.dat d), some (.dat y), some (.dat y)], rfl, rfl, by simp [v_bind, v_ok, v_none, v_pure, v_lift, v_liftN, v_con, v_get, v_gkd, v_gko, v_gkc, v_vwd, v_vws, v_ok1, v_ownD, v_dctD, v_dk1, v_setOwn, v_putM, v_op2, v_op1, v_anil, v_acons, v_vws0, v_vwsC, v_cb, v_tupD, v_lstD, v_lstW, v_listW, v_dds0, v_ddsC, v_asB, v_tb1, v_andT, v_orT, v_notT, v_andV, v_orV, v_notV, v_ofB, v_ifE, v_pl, v_toW, v_fz, v_ofWd, v_ofWo, v_nxt, v_thenS, v_exprS, v_retS, v_retN, v_ifS, v_setS, v_parS, v_setIx, v_asD, v_asI, v_mthE, v_callA, v_callB, v_forS, v_argI, v_seqI, v_slD, v_poN, v_poS, v_isiE, v_isiE2, v_isNE, v_dnew, v_dinT, v_dputS, v_sortDct, v_rgE, v_rg2, v_unS, v_catW, v_chainE, v_add, v_sub, v_lt, v_le, v_gt, v_ge, v_eqI, v_eqB, v_eqS, v_ixL, v_ixT, v_lenL, v_lenT, v_abs, v_intI, v_intB, v_min, v_max, v_chk, ih (hx y hy)], rfl, rfl⟩
      have ea : allD [.list (ds.map fun _ => .bool true)] = some (.bool true) := by
        show (boolsD _).map _ = _
        rw [bools_of ds fun _ => true]
        simp
      rcases hd with rfl | rfl
      · simp [env0, v_bind, v_ok, v_none, v_pure, v_lift, v_liftN, v_con, v_get, v_gkd, v_gko, v_gkc, v_vwd, v_vws, v_ok1, v_ownD, v_dctD, v_dk1, v_setOwn, v_putM, v_op2, v_op1, v_anil, v_acons, v_vws0, v_vwsC, v_cb, v_tupD, v_lstD, v_lstW, v_listW, v_dds0, v_ddsC, v_asB, v_tb1, v_andT, v_orT, v_notT, v_andV, v_orV, v_notV, v_ofB, v_ifE, v_pl, v_toW, v_fz, v_ofWd, v_ofWo, v_nxt, v_thenS, v_exprS, v_retS, v_retN, v_ifS, v_setS, v_parS, v_setIx, v_asD, v_asI, v_mthE, v_callA, v_callB, v_forS, v_argI, v_seqI, v_slD, v_poN, v_poS, v_isiE, v_isiE2, v_isNE, v_dnew, v_dinT, v_dputS, v_sortDct, v_rgE, v_rg2, v_unS, v_catW, v_chainE, v_add, v_sub, v_lt, v_le, v_gt, v_ge, v_eqI, v_eqB, v_eqS, v_ixL, v_ixT, v_lenL, v_lenT, v_abs, v_intI, v_intB, v_min, v_max, v_chk, v_kI, v_kB, v_kT, v_kL, v_kS, isI, isB, isT, isL, isS, cm (.list ds) rfl, ea]
      · simp [env0, v_bind, v_ok, v_none, v_pure, v_lift, v_liftN, v_con, v_get, v_gkd, v_gko, v_gkc, v_vwd, v_vws, v_ok1, v_ownD, v_dctD, v_dk1, v_setOwn, v_putM, v_op2, v_op1, v_anil, v_acons, v_vws0, v_vwsC, v_cb, v_tupD, v_lstD, v_lstW, v_listW, v_dds0, v_ddsC, v_asB, v_tb1, v_andT, v_orT, v_notT, v_andV, v_orV, v_notV, v_ofB, v_ifE, v_pl, v_toW, v_fz, v_ofWd, v_ofWo, v_nxt, v_thenS, v_exprS, v_retS, v_retN, v_ifS, v_setS, v_parS, v_setIx, v_asD, v_asI, v_mthE, v_callA, v_callB, v_forS, v_argI, v_seqI, v_slD, v_poN, v_poS, v_isiE, v_isiE2, v_isNE, v_dnew, v_dinT, v_dputS, v_sortDct, v_rgE, v_rg2, v_unS, v_catW, v_chainE, v_add, v_sub, v_lt, v_le, v_gt, v_ge, v_eqI, v_eqB, v_eqS, v_ixL, v_ixT, v_lenL, v_lenT, v_abs, v_intI, v_intB, v_min, v_max, v_chk, v_kI, v_kB, v_kT, v_kL, v_kS, isI, isB, isT, isL, isS, cm (.tuple ds) rfl, ea]
theorem okS.ints {n : Nat} (ns : List Int) (h : ns.length < 1000) : okS (n + 2) (.tuple (ns.map .int)) ∧ okS (n + 2) (.list (ns.map .int)) := by
  have : ∀ x ∈ ns.map PyData.int, okS (n + 1) x := fun x hx => by
    obtain ⟨i, _, rfl⟩ := List.mem_map.mp hx
    exact .inl ⟨rfl, shp_int i⟩
  exact ⟨.inr ⟨_, .inr rfl, by rw [List.length_map]; exact h, this⟩, .inr ⟨_, .inl rfl, by rw [List.length_map]; exact h, this⟩⟩
end Ov
set_option Elab.async false
set_option linter.all false
set_option maxRecDepth 100000
set_option maxHeartbeats 4000000
namespace Ov
open PySem L2
theorem atI_in {α : Type} {ds : List α} {r : Int} (h0 : 0 ≤ r) (h1 : r < ds.length) : atI ds r = some (ds[r.toNat]'(by omega)) := by
  unfold atI ixN
  rw [if_pos h0, if_pos h1]
  exact List.getElem?_eq_getElem (by omega)
end Ov
set_option Elab.async false
set_option linter.all false
set_option maxRecDepth 100000
set_option maxHeartbeats 4000000
set_option exponentiation.threshold 2000
namespace Ov
open PySem L2
/-! numbers and texts: signs as code points -/
abbrev SC (l : List Nat) : Str := SX.S l
def dgt (c : Nat) : Bool := decide (48 ≤ c) && decide (c ≤ 57)
/-- a number as texts have it -/
def wrt (l : List Nat) : Bool := !l.isEmpty && decide (l.length ≤ 10) && l.all dgt && (decide (l = [48]) || decide (l.head? ≠ some 48))
abbrev dv (l : List Nat) : Nat := NumText.digitsVal l
theorem dgt_all {l : List Nat} (h : l.all dgt = true) : NumText.AllDigits l := fun c hc => by
  have := List.all_eq_true.mp h c hc
  unfold dgt at this
  simp only [Bool.and_eq_true, decide_eq_true_eq] at this
  exact this
theorem dgt_of {l : List Nat} (h : NumText.AllDigits l) : l.all dgt = true := List.all_eq_true.mpr fun c hc => by
  have := h c hc
  unfold dgt
  simp only [Bool.and_eq_true, decide_eq_true_eq]
  exact this
theorem dig128 : ∀ c < 128, Unicode.isDigit c = dgt c := by decide +kernel
theorem ascii_dig {l : List Nat} (h : (l.all fun c => decide (c < 128)) = true) : l.all Unicode.isDigit = l.all dgt := by
  induction l with
  | nil => rfl
  | cons c l ih =>
    simp only [List.all_cons, Bool.and_eq_true, decide_eq_true_eq] at h
    rw [List.all_cons, List.all_cons, ih h.2, dig128 c h.1]
theorem dgt_ascii {l : List Nat} (h : l.all dgt = true) : (l.all fun c => decide (c < 128)) = true := List.all_eq_true.mpr fun c hc => by
  have := dgt_all h c hc
  exact decide_eq_true (by omega)
theorem isdig_S (l : List Nat) : Txt.isdigit (SC l) = (!l.isEmpty && l.all Unicode.isDigit) := by
  unfold Txt.isdigit
  have : (SC l).length = l.length := SX.S_len l
  rw [this]
  have e : (SC l).cps.all Unicode.isDigit = l.all Unicode.isDigit := by
    show l.toArray.all _ = _
    rw [List.all_toArray]
  rw [e]
  cases l <;> simp
theorem isasc_S (l : List Nat) : Txt.isascii (SC l) = l.all fun c => decide (c < 128) := by
  show l.toArray.all _ = _
  rw [List.all_toArray]
theorem back_num {l : List Nat} (h : NumText.AllDigits l) (hne : l ≠ []) : (TL.numL (dv l) = l) ↔ (l = [48] ∨ l.head? ≠ some 48) := by
  have e : TL.numL (dv l) = (match l.dropWhile (· == 48) with
    | [] => [48]
    | c :: r => c :: r) := by
    unfold TL.numL
    rw [NumText.toDigits_all l h]
    have hd : ∀ c ∈ l.dropWhile (· == 48), 48 ≤ c ∧ c ≤ 57 := fun c hc => h c (List.dropWhile_sublist _ |>.subset hc)
    revert hd
    generalize l.dropWhile (· == 48) = m
    intro hd
    cases m with
    | nil => rfl
    | cons c r =>
      show ((c :: r).map Char.ofNat).map Char.toNat = c :: r
      rw [List.map_map]
      conv => rhs; rw [← List.map_id (c :: r)]
      refine List.map_congr_left fun x hx => ?_
      have := hd x hx
      have all : ∀ y < 58, (Char.ofNat y).toNat = y := by decide +kernel
      exact all x (by omega)
  rw [e]
  cases l with
  | nil => exact absurd rfl hne
  | cons c r =>
    by_cases c48 : c = 48
    · subst c48
      have : (48 :: r).dropWhile (· == 48) = r.dropWhile (· == 48) := rfl
      rw [this]
      have ln := (List.dropWhile_sublist (l := r) (· == 48)).length_le
      generalize r.dropWhile (· == 48) = m at ln
      constructor
      · intro k
        left
        cases m with
        | nil => exact k.symm
        | cons d s =>
          have := congrArg List.length (show d :: s = 48 :: r from k)
          simp only [List.length_cons] at this ln
          omega
      · rintro (k | k)
        · have : r = [] := by injection k
          subst this
          cases m with
          | nil => rfl
          | cons d s => simp at ln
        · exact absurd rfl k
    · have : (c :: r).dropWhile (· == 48) = c :: r := by rw [List.dropWhile_cons, if_neg (by rw [beq_iff_eq]; exact c48)]
      rw [this]
      refine ⟨fun _ => .inr fun k => c48 (by injection k), fun _ => rfl⟩
theorem dv_lt : ∀ {l : List Nat}, NumText.AllDigits l → dv l < 10 ^ l.length := fun {l} h => by
  have key : ∀ (l : List Nat) (a : Nat), NumText.AllDigits l → l.foldl (fun acc c => acc * 10 + (c - 48)) a < (a + 1) * 10 ^ l.length := by
    intro l
    induction l with
    | nil => intro a _; show a < (a + 1) * 1; omega
    | cons c l ih =>
      intro a h
      have hc := h.head
      refine Nat.lt_of_lt_of_le (ih (a * 10 + (c - 48)) h.tail) ?_
      rw [List.length_cons, Nat.pow_succ, Nat.mul_comm (10 ^ l.length) 10, ← Nat.mul_assoc]
      exact Nat.mul_le_mul_right _ (by omega)
  have := key l 0 h
  rw [Nat.zero_add, Nat.one_mul] at this
  exact this
theorem wrt_d {l : List Nat} (h : wrt l = true) : l ≠ [] ∧ l.length ≤ 10 ∧ NumText.AllDigits l ∧ (l = [48] ∨ l.head? ≠ some 48) := by
  unfold wrt at h
  simp only [Bool.and_eq_true, Bool.or_eq_true, decide_eq_true_eq, Bool.not_eq_true', List.isEmpty_eq_false_iff] at h
  exact ⟨h.1.1.1, h.1.1.2, dgt_all h.1.2, h.2⟩
theorem int_wrt {l : List Nat} (h : l.all dgt = true) (hne : l ≠ []) (hl : l.length ≤ 10) : intTD [.str (SC l)] = some (.int (dv l : Nat)) := by
  unfold intTD
  show (if (SC l).length ≤ 640 then _ else none) = _
  rw [if_pos (by rw [SX.S_len]; omega), SX.int_S h hne (by omega)]
  rfl
theorem str_nat {n : Nat} (h : n < 2 ^ 1000) : strD [.int (n : Nat)] = some (.str (SC (TL.numL n))) := by
  show (if ((n : Nat) : Int).natAbs < 2 ^ 1000 then _ else none) = _
  rw [if_pos (by exact h), SX.num_S]
theorem wrt_num {n : Nat} (h : n < 10 ^ 10) : wrt (TL.numL n) = true := by
  have h1 := TL.numL_ne n
  have h2 := TL.numL_digits n
  have h3 := TL.numL_len (n := n) (k := 10) (by decide) h
  have h4 := (back_num h2 h1).mp (by rw [show dv (TL.numL n) = n from TL.numL_val n])
  unfold wrt
  simp only [Bool.and_eq_true, Bool.or_eq_true, decide_eq_true_eq, Bool.not_eq_true', List.isEmpty_eq_false_iff]
  exact ⟨⟨⟨h1, h3⟩, dgt_of h2⟩, h4⟩
/-! words -/
def wsp (l : List Nat) : List (List Nat) := TL.spl [32] 0 [] l
def dsp (l : List Nat) : List (List Nat) := TL.spl [45] 0 [] l
theorem split_w (l : List Nat) : Txt.split (SC l) (" " : Str) = (wsp l).map SC := SX.split_S (a := l) (b := [32]) (by decide) (by decide)
theorem split_d (l : List Nat) : Txt.split (SC l) ("-" : Str) = (dsp l).map SC := SX.split_S (a := l) (b := [45]) (by decide) (by decide)
theorem spl_len (S : List Nat) : ∀ (l : List Nat) (k : Nat) (acc : List Nat), (TL.spl S k acc l).length ≤ l.length + 1
  | [], k, acc => by rw [TL.spl_nil]; exact Nat.le_refl 1
  | c :: r, 0, acc => by
    cases h : TL.pre S (c :: r) with
    | true =>
      rw [TL.spl_hit h, List.length_cons, List.length_cons]
      have := spl_len S r (S.length - 1) []
      omega
    | false =>
      rw [TL.spl_miss h, List.length_cons]
      have := spl_len S r 0 (acc ++ [c])
      omega
  | c :: r, k + 1, acc => by
    have e : TL.spl S (k + 1) acc (c :: r) = TL.spl S k acc r := rfl
    rw [e, List.length_cons]
    have := spl_len S r k acc
    omega
theorem wsp_len (l : List Nat) : (wsp l).length ≤ l.length + 1 := spl_len _ l 0 []
theorem dsp_len (l : List Nat) : (dsp l).length ≤ l.length + 1 := spl_len _ l 0 []
theorem spl_part_le (S : List Nat) : ∀ (l : List Nat) (k : Nat) (acc : List Nat), ∀ p ∈ TL.spl S k acc l, p.length ≤ acc.length + l.length
  | [], k, acc, p, hp => by rw [TL.spl_nil, List.mem_singleton] at hp; subst hp; simp
  | c :: r, 0, acc, p, hp => by
    cases h : TL.pre S (c :: r) with
    | true =>
      rw [TL.spl_hit h] at hp
      rcases List.mem_cons.mp hp with rfl | hp
      · simp
      · have := spl_part_le S r _ [] p hp
        simp only [List.length_nil, List.length_cons] at this ⊢
        omega
    | false =>
      rw [TL.spl_miss h] at hp
      have := spl_part_le S r 0 _ p hp
      simp only [List.length_append, List.length_cons, List.length_nil] at this ⊢
      omega
  | c :: r, k + 1, acc, p, hp => by
    have := spl_part_le S r k acc p hp
    simp only [List.length_cons]
    omega
theorem wsp_le {l p : List Nat} (h : p ∈ wsp l) : p.length ≤ l.length := by
  have := spl_part_le _ l 0 [] p h
  simpa using this
theorem dsp_le {l p : List Nat} (h : p ∈ dsp l) : p.length ≤ l.length := by
  have := spl_part_le _ l 0 [] p h
  simpa using this
/-- the words of a text: none for the sign -/
def wds (l : List Nat) : List (List Nat) := if l = [45] then [] else wsp l
theorem wds_len (l : List Nat) : (wds l).length ≤ l.length + 1 := by
  unfold wds
  split
  · simp
  · exact wsp_len l
theorem wds_le {l p : List Nat} (h : p ∈ wds l) : p.length ≤ l.length := by
  unfold wds at h
  split at h
  · cases h
  · exact wsp_le h
def txt (ps : List (List Nat)) : List Nat := if ps.isEmpty then [45] else TL.joinL [32] ps
theorem joinL_ne {ps : List (List Nat)} (h : ps ≠ []) (h2 : ∀ p ∈ ps, p ≠ [] ∧ p ≠ [45]) : TL.joinL [32] ps ≠ [45] := by
  match ps, h with
  | [p], _ => exact (h2 p (List.mem_singleton.mpr rfl)).2
  | p :: q :: r, _ =>
    intro e
    have e : p ++ ([32] ++ TL.joinL [32] (q :: r)) = [45] := e
    have hp := (h2 p (List.mem_cons_self ..)).1
    have := congrArg List.length e
    simp only [List.length_append, List.length_cons, List.length_nil] at this
    have : 0 < p.length := List.length_pos_iff.mpr hp
    omega
theorem wds_txt {ps : List (List Nat)} (h : ∀ p ∈ ps, p ≠ [] ∧ p ≠ [45] ∧ 32 ∉ p) : wds (txt ps) = ps := by
  unfold wds txt
  cases ps with
  | nil => rfl
  | cons p r =>
    have e : (p :: r : List (List Nat)).isEmpty = false := rfl
    rw [e]
    show (if TL.joinL [32] (p :: r) = [45] then [] else wsp (TL.joinL [32] (p :: r))) = p :: r
    rw [if_neg (joinL_ne (by simp) fun q hq => ⟨(h q hq).1, (h q hq).2.1⟩)]
    exact SX.spl_join (by simp) fun q hq => (h q hq).2.2
theorem joinL_len : ∀ {ps : List (List Nat)} {m : Nat}, (∀ p ∈ ps, p.length ≤ m) → (TL.joinL [32] ps).length ≤ ps.length * (m + 1)
  | [], m, _ => by simp [TL.joinL]
  | [p], m, h => by
    have := h p (List.mem_singleton.mpr rfl)
    show p.length ≤ 1 * (m + 1)
    omega
  | p :: q :: r, m, h => by
    have h1 := h p (List.mem_cons_self ..)
    have h2 := joinL_len (ps := q :: r) (m := m) fun x hx => h x (List.mem_cons_of_mem _ hx)
    show (p ++ ([32] ++ TL.joinL [32] (q :: r))).length ≤ (r.length + 1 + 1) * (m + 1)
    simp only [List.length_append, List.length_cons, List.length_nil] at h2 ⊢
    rw [Nat.add_mul (r.length + 1) 1 (m + 1)]
    omega
end Ov
set_option Elab.async false
set_option linter.all false
set_option maxRecDepth 100000
set_option maxHeartbeats 4000000
set_option exponentiation.threshold 2000
namespace Ov
open PySem L2
abbrev sD (l : List Nat) : PyData := .str (SC l)
theorem lenT_x {l : List Nat} (h : l.length ≤ 1000000) : lenTD [sD l] = some (.int (l.length : Nat)) := by
  show (if (SC l).length ≤ 1000000 then _ else none) = _
  rw [SX.S_len, if_pos h]
theorem eqS_x (n : Bool) (a b : List Nat) : eqA n (sD a) (sD b) = some (.bool (n ^^ decide (a = b))) := by
  rw [v_eqS]
  congr 3
  exact decide_eq_decide.mpr ⟨SX.S_inj, fun e => by rw [e]⟩
theorem oss_nd (l : List Int) : (PySem.W.ossOf l).Nodup := by
  have key : ∀ r : List Int, (PySem.W.ossOf r.reverse).Nodup := by
    intro r
    induction r with
    | nil => exact List.nodup_nil
    | cons k r ih =>
      rw [List.reverse_cons, PySem.W.oss_next]
      split
      · exact ih
      · rename_i h
        exact List.nodup_append.mpr ⟨ih, by simp, fun a ha b hb e => h (by rw [List.mem_singleton] at hb; rw [← hb, ← e]; exact ha)⟩
  have := key l.reverse
  rwa [List.reverse_reverse] at this
theorem difN_iff (c : List Int) : decide ((difN c : Int) = (c.length : Int)) = decide c.Nodup := by
  unfold difN
  rw [PySem.W.oss_met]
  exact dedup_len (oss_nd c) fun k => PySem.W.oss_has
theorem all_map {β : Type} (l : List β) (t : β → Bool) : allD [.list (l.map fun x => .bool (t x))] = some (.bool (l.all t)) := by
  have : boolsD (l.map fun x => .bool (t x)) = some (l.map t) := by
    induction l with
    | nil => rfl
    | cons a l ih => show (boolsD (l.map _)).map (t a :: ·) = _; rw [ih]; rfl
  show (boolsD _).map _ = _
  rw [this]
  show some (PyData.bool ((l.map t).all id)) = _
  rw [List.all_map]
  rfl
theorem lenSetG_v {c : List Int} (h : c.length ≤ 1000) : lenSetGD (.list (c.map .int)) = some (.int (difN c : Nat)) := by
  show (intsD _).bind _ = _
  rw [intsD_map]
  show (if c.length ≤ 1000 then some (PyData.int (difN c : Nat)) else none) = _
  rw [if_pos h]
theorem wn_ok {l : List Nat} (hl : l.length ≤ 100000) : F_is_written_number [sD l] = some (.dat (.bool (wrt l))) := by
  refine runA_eq rfl ⟨[some (.dat (sD l))], ?_⟩
  show f_is_written_number [some (.dat (sD l))] = _
  unfold f_is_written_number s_is_written_number_0 s_is_written_number_1
  have t1 : tb1 (op2 gtD (cb lenTD (acons (get 0) anil)) (con (.int 10))) [some (.dat (sD l))] = some (.ok (decide (10 < l.length)) [some (.dat (sD l))]) :=
    tb_x (op2_x (cb_x (acons_x (get_x rfl) anil_x) (vwC_x vwd_x vw0_x) (lenT_x (by omega))) con_x vwd_x vwd_x (by rw [gtI_x]; congr 2; exact decide_eq_decide.mpr (by omega))) vwd_x
  have t2 : tb1 (txM0 (flagD Txt.isascii) (get 0)) [some (.dat (sD l))] = some (.ok (l.all fun c => decide (c < 128)) [some (.dat (sD l))]) :=
    tb_x (txM0_x (get_x rfl) (by unfold flagD; rw [isasc_S])) vwd_x
  have t3 : tb1 (txM0 (flagD Txt.isdigit) (get 0)) [some (.dat (sD l))] = some (.ok (!l.isEmpty && l.all Unicode.isDigit) [some (.dat (sD l))]) :=
    tb_x (txM0_x (get_x rfl) (by unfold flagD; rw [isdig_S])) vwd_x
  by_cases c1 : 10 < l.length
  · have e : wrt l = false := by
      unfold wrt
      rw [show decide (l.length ≤ 10) = false from decide_eq_false (by omega)]
      simp
    rw [e]
    rw [decide_eq_true c1] at t1
    exact then_r (ifS_t (orT_t t1) (ret_x (pl_x con_x rfl)))
  rw [decide_eq_false c1] at t1
  by_cases c2 : (l.all fun c => decide (c < 128)) = true
  case neg =>
    rw [Bool.not_eq_true] at c2
    have e : wrt l = false := by
      cases q : wrt l with
      | false => rfl
      | true =>
        have := dgt_ascii (dgt_of (wrt_d q).2.2.1)
        rw [c2] at this
        cases this
    rw [e]
    rw [c2] at t2
    exact then_r (ifS_t (orT_f t1 (orT_t (notT_x t2))) (ret_x (pl_x con_x rfl)))
  rw [c2] at t2
  rw [ascii_dig c2] at t3
  by_cases c3 : (!l.isEmpty && l.all dgt) = true
  case neg =>
    rw [Bool.not_eq_true] at c3
    have e : wrt l = false := by
      cases q : wrt l with
      | false => rfl
      | true =>
        obtain ⟨a, b, c, d⟩ := wrt_d q
        rw [dgt_of c, Bool.and_true, Bool.not_eq_false', List.isEmpty_iff] at c3
        exact absurd c3 a
    rw [e]
    rw [c3] at t3
    exact then_r (ifS_t (orT_f t1 (orT_f (notT_x t2) (notT_x t3))) (ret_x (pl_x con_x rfl)))
  rw [c3] at t3
  rw [Bool.and_eq_true, Bool.not_eq_true', List.isEmpty_eq_false_iff] at c3
  have ad := dgt_all c3.2
  have vl : dv l < 2 ^ 1000 := Nat.lt_of_lt_of_le (dv_lt ad) (Nat.le_trans (Nat.pow_le_pow_right (by decide) (show l.length ≤ 10 by omega)) (by decide))
  have bk := back_num ad c3.1
  have e : wrt l = decide (TL.numL (dv l) = l) := by
    unfold wrt
    rw [c3.2, decide_eq_true (show l.length ≤ 10 by omega), show (!l.isEmpty) = true by rw [Bool.not_eq_true', List.isEmpty_eq_false_iff]; exact c3.1, decide_eq_decide.mpr bk, Bool.decide_or]
    rfl
  rw [e]
  refine then_x (ifS_f (orT_f t1 (orT_f (notT_x t2) (notT_x t3))) nxt_x) ?_
  exact ret_x (pl_x (op2_x (cb_x (acons_x (cb_x (acons_x (get_x rfl) anil_x) (vwC_x vwd_x vw0_x) (int_wrt c3.2 c3.1 (by omega))) anil_x) (vwC_x vwd_x vw0_x) (str_nat vl)) (get_x rfl) vwd_x vwd_x (by rw [eqS_x, Bool.false_xor])) rfl)
theorem dig_in {l : List Nat} (h : l.length < 1000000) {e : En} : (lcW (strI (get 0)) (gN 1) yesT (op2 inSgD (get 1) (con (.str "0123456789"))) [1]) [some (.dat (sD l)), none] = some (.ok (.own (dats (l.map fun c => .bool (dgt c)))) [some (.dat (sD l)), none]) := by
  refine lc_eq (strI_x (get_x rfl)) rfl rfl ?_
  have ch : chsD (SC l) = l.map fun c => sD [c] := by
    unfold chsD
    rfl
  rw [ch]
  refine compM_x (z := fun c => sD [c]) (fun c => .bool (dgt c)) l h fun c hc => ⟨[some (.dat (sD l)), some (.dat (sD [c]))], rfl, rfl, op2_x (get_x rfl) con_x vwd_x vwd_x ?_, rfl, rfl⟩
  have dg : ∀ c, decide (c ∈ ("0123456789" : Str).cps.toList) = dgt c := fun c => by
    have : ("0123456789" : Str).cps.toList = [48, 49, 50, 51, 52, 53, 54, 55, 56, 57] := by decide +kernel
    rw [this]
    unfold dgt
    rw [← Bool.decide_and]
    refine decide_eq_decide.mpr ?_
    simp only [List.mem_cons, List.not_mem_nil, or_false]
    omega
  show some (PyData.bool (decide (c ∈ ("0123456789" : Str).cps.toList))) = _
  rw [dg]
theorem digits_ok {l : List Nat} (hl : l.length ≤ 100000) : F_digits [sD l] = some (.dat (if wrt l = true then .int (dv l : Nat) else .none)) := by
  refine runA_eq rfl ⟨[some (.dat (sD l)), none], ?_⟩
  show f_digits [some (.dat (sD l)), none] = _
  unfold f_digits s_digits_0 s_digits_1
  have t1 : tb1 (chainE leD leD (con (.int 1)) (cb lenTD (acons (get 0) anil)) (con (.int 10))) [some (.dat (sD l)), none] = some (.ok (!l.isEmpty && decide (l.length ≤ 10)) [some (.dat (sD l)), none]) := by
    have le := cb_x (fo := lenTD) (acons_x (get_x (env := [some (.dat (sD l)), none]) (i := 0) rfl) anil_x) (vwC_x vwd_x vw0_x) (lenT_x (l := l) (by omega))
    cases l with
    | nil => exact tb_x (chain_f con_x le vwd_x vwd_x (by rw [leI_x]; rfl)) vwd_x
    | cons a l =>
      exact tb_x (chain_t con_x le vwd_x vwd_x (by rw [leI_x, decide_eq_true (by rw [List.length_cons]; omega)]) con_x vwd_x vwd_x (by rw [leI_x])) (by
        rw [show (!(a :: l).isEmpty) = true from rfl, Bool.true_and]
        rw [show decide (((a :: l).length : Int) ≤ 10) = decide ((a :: l).length ≤ 10) from decide_eq_decide.mpr (by omega)]
        exact vwd_x)
  have t2 : tb1 (cb allD (acons (fz (lcW (strI (get 0)) (gN 1) yesT (op2 inSgD (get 1) (con (.str "0123456789"))) [1])) anil)) [some (.dat (sD l)), none] = some (.ok (l.all dgt) [some (.dat (sD l)), none]) := by
    exact tb_x (cb_x (acons_x (fz_x (dig_in (by omega) (e := [])) (v_ofWo _)) anil_x) (vwC_x vwd_x vw0_x) (all_map l dgt)) vwd_x
  by_cases c1 : (!l.isEmpty && decide (l.length ≤ 10)) = true
  case neg =>
    rw [Bool.not_eq_true] at c1
    have e : wrt l = false := by
      unfold wrt
      rw [c1]
      rfl
    rw [e]
    rw [c1] at t1
    exact then_r (ifS_t (orT_t (notT_x t1)) (ret_x (pl_x con_x rfl)))
  rw [c1] at t1
  by_cases c2 : l.all dgt = true
  case neg =>
    rw [Bool.not_eq_true] at c2
    have e : wrt l = false := by
      unfold wrt
      rw [c2, Bool.and_false]
      rfl
    rw [e]
    rw [c2] at t2
    exact then_r (ifS_t (orT_f (notT_x t1) (notT_x t2)) (ret_x (pl_x con_x rfl)))
  rw [c2] at t2
  have e : wrt l = (decide (l = [48]) || decide (l.head? ≠ some 48)) := by
    unfold wrt
    rw [c1, c2]
    rfl
  rw [e]
  simp only [Bool.and_eq_true, decide_eq_true_eq, Bool.not_eq_true', List.isEmpty_eq_false_iff] at c1
  refine then_x (ifS_f (orT_f (notT_x t1) (notT_x t2)) nxt_x) ?_
  have u1 : tb1 (op2 (eqA false) (get 0) (con (.str "0"))) [some (.dat (sD l)), none] = some (.ok (decide (l = [48])) [some (.dat (sD l)), none]) :=
    tb_x (op2_x (get_x rfl) con_x vwd_x vwd_x (show eqA false (sD l) (sD [48]) = _ by rw [eqS_x, Bool.false_xor])) vwd_x
  have iv := cb_x (fo := intTD) (acons_x (get_x (env := [some (.dat (sD l)), none]) (i := 0) rfl) anil_x) (vwC_x vwd_x vw0_x) (int_wrt c2 c1.1 c1.2)
  cases l with
  | nil => exact absurd rfl c1.1
  | cons a r =>
    have ia : ixTD (sD (a :: r)) (.int 0) = some (sD [a]) := by
      show (if (SC (a :: r)).length ≤ 1000000 then (atI (a :: r) 0).map fun c => PyData.str ⟨#[c]⟩ else none) = _
      rw [SX.S_len, if_pos (by omega), atI_in (ds := a :: r) (r := 0) (by omega) (by rw [List.length_cons]; omega)]
      rfl
    have u2 : tb1 (op2 (eqA true) (op2 ixTD (get 0) (con (.int 0))) (con (.str "0"))) [some (.dat (sD (a :: r))), none] = some (.ok (decide ((a :: r).head? ≠ some 48)) [some (.dat (sD (a :: r))), none]) :=
      tb_x (op2_x (op2_x (get_x rfl) con_x vwd_x vwd_x ia) con_x vwd_x vwd_x (show eqA true (sD [a]) (sD [48]) = _ by
        rw [eqS_x, Bool.true_xor, ← decide_not]
        congr 2
        exact decide_eq_decide.mpr (by simp))) vwd_x
    cases h1 : decide ((a :: r) = [48]) with
    | true =>
      rw [h1] at u1
      exact ret_x (pl_x (ifE_t (orT_t u1) iv) rfl)
    | false =>
      rw [h1] at u1
      cases h2 : decide ((a :: r).head? ≠ some 48) with
      | true =>
        rw [h2] at u2
        exact ret_x (pl_x (ifE_t (orT_f u1 u2) iv) rfl)
      | false =>
        rw [h2] at u2
        exact ret_x (pl_x (ifE_f (orT_f u1 u2) con_x) rfl)
end Ov
set_option Elab.async false
set_option linter.all false
set_option maxRecDepth 100000
set_option maxHeartbeats 4000000
set_option exponentiation.threshold 2000
namespace Ov
open PySem L2
theorem tbL_x {env e : En} {f : M R} {ds : List PyData} (h : f env = some (.ok (.dat (.list ds)) e)) : tbL f env = some (.ok (!ds.isEmpty) e) := by
  unfold tbL
  rw [v_bind, h, v_ok, v_bind, v_vwd, v_ok]
  rfl
theorem map_SC (ps : List (List Nat)) : ps.map sD = (ps.map SC).map PyData.str := by rw [List.map_map]; rfl
theorem joinT_x {ps : List (List Nat)} {m k : Nat} (h : ∀ p ∈ ps, p.length ≤ m) (hk : ps.length ≤ k) (hm : k * m + k ≤ 1000000) : joinTD (" " : Str) (.list (ps.map sD)) = some (sD (TL.joinL [32] ps)) := by
  show (strsD (ps.map sD)).bind _ = _
  rw [map_SC, strsD_map]
  have sl : ∀ (ps : List (List Nat)) , (∀ p ∈ ps, p.length ≤ m) → ((ps.map SC).map (·.length)).sum ≤ ps.length * m := by
    intro ps
    induction ps with
    | nil => intro _; simp
    | cons p r ih =>
      intro h
      have h1 := ih fun q hq => h q (List.mem_cons_of_mem _ hq)
      have h2 := h p (List.mem_cons_self ..)
      rw [List.map_cons, List.map_cons, List.sum_cons, SX.S_len, List.length_cons, Nat.add_mul]
      omega
  have h1 := sl ps h
  have h2 : ps.length * m ≤ k * m := Nat.mul_le_mul_right _ hk
  show (if _ ≤ 1000000 then some (PyData.str (Txt.join (" " : Str) (ps.map SC))) else none) = _
  rw [if_pos (by rw [List.length_map, show (" " : Str).length = 1 from rfl]; omega)]
  exact congrArg (fun x => some (PyData.str x)) (SX.join_S [32] ps)
theorem joined_ok {ps : List (List Nat)} {m k : Nat} (h : ∀ p ∈ ps, p.length ≤ m) (hk : ps.length ≤ k) (hm : k * m + k ≤ 1000000) : F_joined [.list (ps.map sD)] = some (.dat (sD (txt ps))) := runA_eq rfl ⟨[some (.dat (.list (ps.map sD)))], by
  show f_joined [some (.dat (.list (ps.map sD)))] = _
  unfold f_joined txt
  have t := tbL_x (get_x (env := [some (.dat (.list (ps.map sD)))]) (i := 0) rfl)
  have em : (ps.map sD).isEmpty = ps.isEmpty := by cases ps <;> rfl
  rw [em] at t
  cases q : ps.isEmpty with
  | true => rw [q] at t; exact ret_x (pl_x (ifE_f t con_x) rfl)
  | false => rw [q] at t; exact ret_x (pl_x (ifE_t t (txM1_x con_x (get_x rfl) vwd_x (joinT_x h hk hm))) rfl)⟩
theorem words_in_ok {l : List Nat} (hl : l.length ≤ 100000) : F_words_in [sD l] = some (.dat (.list ((wds l).map sD))) := runA_eq rfl ⟨[some (.dat (sD l))], by
  show f_words_in [some (.dat (sD l))] = _
  unfold f_words_in wds
  have t : tb1 (op2 (eqA false) (get 0) (con (.str "-"))) [some (.dat (sD l))] = some (.ok (decide (l = [45])) [some (.dat (sD l))]) :=
    tb_x (op2_x (get_x rfl) con_x vwd_x vwd_x (show eqA false (sD l) (sD [45]) = _ by rw [eqS_x, Bool.false_xor])) vwd_x
  by_cases q : l = [45]
  · rw [decide_eq_true q] at t
    rw [if_pos q]
    exact ret_x (pl_x (ifE_t t (lst_x anil_x rfl (by decide))) rfl)
  · rw [decide_eq_false q] at t
    rw [if_neg q, map_SC, ← split_w]
    exact ret_x (pl_x (ifE_f t (fz_x (splitW_x (get_x rfl) con_x ⟨by decide, by rw [SX.S_len]; exact hl⟩) (v_ofWo _))) rfl)⟩
theorem wall_x {env : En} {i v : Nat} {F : List PyData → Option Wv} {ps : List (List Nat)} {g : List Nat → Bool} {d : PyData} (hd : seqD d = some (ps.map sD)) (h0 : env[i]? = some (some (.dat d))) (hl : ps.length < 1000000) (hF : ∀ p ∈ ps, F [sD p] = some (.dat (.bool (g p)))) (hf : freeB env [v] = true) (hw : wipeE env [v] = env)
    (hv : ∀ p, ∃ e, gN v (sD p) env = some e ∧ e[v]? = some (some (.dat (sD p))) ∧ freeB e [v] = true ∧ wipeE e [v] = env) :
    tb1 (cb allD (acons (fz (lcW (seqI (get i)) (gN v) yesT (fz (callA F (acons (get v) anil))) [v])) anil)) env = some (.ok (ps.all g) env) :=
  tb_x (cb_x (acons_x (fz_x (lc_eq (seq_x (get_x h0) hd) hf hw (compM_x (z := sD) (fun p => .bool (g p)) ps hl fun p hp => by
    obtain ⟨e, h1, h2, h3, h4⟩ := hv p
    exact ⟨e, h1, rfl, fz_x (callA_x (acons_x (get_x h2) anil_x) rfl (hF p hp)) rfl, h3, h4⟩)) (v_ofWo _)) anil_x) (vwC_x vwd_x vw0_x) (all_map ps g)) vwd_x
/-- the numbers of a pair -/
def wpr (ps : List (List Nat)) : Bool := decide (ps.length = 2) && ps.all wrt
theorem wp_ok {ps : List (List Nat)} (hl : ps.length < 1000000) (h : ∀ p ∈ ps, p.length ≤ 100000) : F_is_written_pair [.list (ps.map sD)] = some (.dat (.bool (wpr ps))) := runA_eq rfl ⟨[some (.dat (.list (ps.map sD))), none], by
  show f_is_written_pair [some (.dat (.list (ps.map sD))), none] = _
  unfold f_is_written_pair wpr
  have t1 : tb1 (op2 (eqA false) (cb lenD (acons (get 0) anil)) (con (.int 2))) [some (.dat (.list (ps.map sD))), none] = some (.ok (decide (ps.length = 2)) [some (.dat (.list (ps.map sD))), none]) :=
    tb_x (op2_x (cb_x (acons_x (get_x rfl) anil_x) (vwC_x vwd_x vw0_x) (lenLm_x ps sD)) con_x vwd_x vwd_x (by rw [eqI_f]; congr 2; exact decide_eq_decide.mpr (by omega))) vwd_x
  have t2 : cb allD (acons (fz (lcW (seqI (get 0)) (gN 1) yesT (fz (callA F_is_written_number (acons (get 1) anil))) [1])) anil) [some (.dat (.list (ps.map sD))), none] = some (.ok (.dat (.bool (ps.all wrt))) [some (.dat (.list (ps.map sD))), none]) :=
    cb_x (acons_x (fz_x (lc_eq (seq_x (get_x rfl) rfl) rfl rfl (compM_x (z := sD) (fun p => .bool (wrt p)) ps hl fun p hp => ⟨[some (.dat (.list (ps.map sD))), some (.dat (sD p))], rfl, rfl, fz_x (callA_x (acons_x (get_x rfl) anil_x) rfl (wn_ok (h p hp))) rfl, rfl, rfl⟩)) (v_ofWo _)) anil_x) (vwC_x vwd_x vw0_x) (all_map ps wrt)
  cases q : decide (ps.length = 2) with
  | true => rw [q] at t1; exact ret_x (pl_x (andV_t t1 t2) rfl)
  | false => rw [q] at t1; exact ret_x (pl_x (andV_f t1) rfl)⟩
/-! writing -/
/-- a number's signs -/
def nm (x : Int) : List Nat := TL.numL x.toNat
theorem str_nm {x : Int} (h0 : 0 ≤ x) (h : x ≤ 10 ^ 9) : strD [.int x] = some (sD (nm x)) := by
  obtain ⟨n, rfl⟩ : ∃ n : Nat, x = n := ⟨x.toNat, by omega⟩
  exact str_nat (Nat.lt_of_lt_of_le (show n < 10 ^ 10 by omega) (by decide))
theorem nm_len {x : Int} (h0 : 0 ≤ x) (h : x ≤ 10 ^ 9) : (nm x).length ≤ 10 := TL.numL_len (by decide) (by omega)
theorem nm_wrt {x : Int} (h0 : 0 ≤ x) (h : x ≤ 10 ^ 9) : wrt (nm x) = true := wrt_num (by omega)
theorem nm_val {x : Int} (h0 : 0 ≤ x) : ((dv (nm x) : Nat) : Int) = x := by
  show ((NumText.digitsVal (TL.numL x.toNat) : Nat) : Int) = x
  rw [TL.numL_val]
  omega
theorem nm_free {x : Int} {s : Nat} (h : s < 48 ∨ 57 < s) : s ∉ nm x := TL.numL_free h
theorem nm_ne (x : Int) : nm x ≠ [] := TL.numL_ne _
theorem nm_ok (x : Int) : nm x ≠ [] ∧ nm x ≠ [45] ∧ 32 ∉ nm x := ⟨nm_ne x, fun e => nm_free (x := x) (s := 45) (by omega) (by rw [e]; simp), nm_free (by omega)⟩
section
variable {ms : List Int} {d : PyData}
theorem row_text_ok (hd : seqD d = some (ms.map .int)) (hb : ∀ x ∈ ms, 0 ≤ x ∧ x ≤ 10 ^ 9) (hl : ms.length ≤ 100) : F_row_text [d] = some (.dat (sD (txt (ms.map nm)))) := runA_eq rfl ⟨[some (.dat d), none], by
  show f_row_text [some (.dat d), none] = _
  unfold f_row_text
  have j := joined_ok (ps := ms.map nm) (m := 10) (k := 100) (fun p hp => by
    obtain ⟨x, hx, rfl⟩ := List.mem_map.mp hp
    exact nm_len (hb x hx).1 (hb x hx).2) (by rw [List.length_map]; exact hl) (by decide)
  rw [List.map_map] at j
  refine ret_x (pl_x (fz_x (callA_x (acons_x (fz_x (lc_eq (seq_x (get_x rfl) hd) rfl rfl (compM_x (z := PyData.int) (fun x => sD (nm x)) ms (by omega) fun x hx => ⟨[some (.dat d), some (.dat (.int x))], rfl, rfl, cb_x (acons_x (get_x rfl) anil_x) (vwC_x vwd_x vw0_x) (str_nm (hb x hx).1 (hb x hx).2), rfl, rfl⟩)) (v_ofWo _)) anil_x) rfl j) rfl) rfl)⟩
theorem sum_text_ok (hd : d = .tuple (ms.map .int)) (hb : ∀ x ∈ ms, 0 ≤ x ∧ x ≤ 10 ^ 9) (hl : ms.length ≤ 100) : F_sum_text [d] = some (.dat (sD (txt (ms.map nm)))) := runA_eq rfl ⟨[some (.dat d), none], by
  subst hd
  show f_sum_text [some (.dat (.tuple (ms.map .int))), none] = _
  unfold f_sum_text txt
  have j := joinT_x (ps := ms.map nm) (m := 10) (k := 100) (fun p hp => by
    obtain ⟨x, hx, rfl⟩ := List.mem_map.mp hp
    exact nm_len (hb x hx).1 (hb x hx).2) (by rw [List.length_map]; exact hl) (by decide)
  rw [List.map_map] at j
  have t := tb_x (op2_x (cb_x (acons_x (get_x (env := [some (.dat (.tuple (ms.map .int))), none]) (i := 0) rfl) anil_x) (vwC_x vwd_x vw0_x) (lenTm_x ms PyData.int)) (con_x (d := .int 0)) vwd_x vwd_x (gtI_x _ _)) vwd_x
  have c := fz_x (lc_eq (fi := seqI (get 0)) (p := gN 1) (ft := yesT) (fe := cb strD (acons (get 1) anil)) (vs := [1]) (seq_x (get_x (env := [some (.dat (.tuple (ms.map .int))), none]) (i := 0) rfl) rfl) rfl rfl (compM_x (z := PyData.int) (fun x => sD (nm x)) ms (by omega) fun x hx => ⟨[some (.dat (.tuple (ms.map .int))), some (.dat (.int x))], rfl, rfl, cb_x (acons_x (get_x rfl) anil_x) (vwC_x vwd_x vw0_x) (str_nm (hb x hx).1 (hb x hx).2), rfl, rfl⟩)) (v_ofWo _)
  cases ms with
  | nil => exact ret_x (pl_x (ifE_f t con_x) rfl)
  | cons a r =>
    rw [decide_eq_true (show (0 : Int) < ((a :: r).length : Nat) by rw [List.length_cons]; omega)] at t
    exact ret_x (pl_x (ifE_t t (txM1_x con_x c vwd_x j)) rfl)⟩
end
/-! lists of pairs -/
abbrev prI (p : Int × Int) : PyData := .tuple [.int p.1, .int p.2]
def pt (p : Int × Int) : List Nat := nm p.1 ++ [45] ++ nm p.2
def Bp (ps : List (Int × Int)) : Prop := ∀ p ∈ ps, 0 ≤ p.1 ∧ p.1 ≤ 10 ^ 9 ∧ 0 ≤ p.2 ∧ p.2 ≤ 10 ^ 9
theorem pt_len {p : Int × Int} (h : 0 ≤ p.1 ∧ p.1 ≤ 10 ^ 9 ∧ 0 ≤ p.2 ∧ p.2 ≤ 10 ^ 9) : (pt p).length ≤ 21 := by
  have h1 := nm_len h.1 h.2.1
  have h2 := nm_len h.2.2.1 h.2.2.2
  unfold pt
  rw [List.length_append, List.length_append, List.length_singleton]
  omega
theorem pt_ok (p : Int × Int) : pt p ≠ [] ∧ pt p ≠ [45] ∧ 32 ∉ pt p := by
  refine ⟨fun e => ?_, fun e => ?_, fun h => ?_⟩
  · have := congrArg List.length e
    unfold pt at this
    simp only [List.length_append, List.length_cons, List.length_nil] at this
    omega
  · have := congrArg List.length e
    have n1 := List.length_pos_iff.mpr (nm_ne p.1)
    unfold pt at this
    simp only [List.length_append, List.length_cons, List.length_nil] at this
    omega
  · unfold pt at h
    simp only [List.mem_append, List.mem_cons, List.not_mem_nil, or_false] at h
    rcases h with (h | h) | h
    · exact nm_free (by omega) h
    · omega
    · exact nm_free (by omega) h
theorem cat_x {a b : List Nat} (h : a.length + b.length ≤ 1000000) : catSD (sD a) (sD b) = some (sD (a ++ b)) := by
  show (if (SC a).length + (SC b).length ≤ 1000000 then some (PyData.str (SC a ++ SC b)) else none) = _
  rw [SX.S_len, SX.S_len, if_pos h, SX.S_cat]
theorem fmt_x {env e : En} {fa : M R} {x : Int} (h : fa env = some (.ok (.dat (.int x)) e)) (h0 : 0 ≤ x) (h1 : x ≤ 10 ^ 9) : fmtE fa env = some (.ok (.dat (sD (nm x))) e) := by
  refine bind_go h (bind_go (a := SC (nm x)) (e := e) ?_ rfl)
  have hl : x.natAbs.log2 < 1920 := by
    by_cases z : x.natAbs = 0
    · rw [z]; decide
    · exact (Nat.log2_lt z).mpr (Nat.lt_of_lt_of_le (show x.natAbs < 10 ^ 10 by omega) (Nat.le_trans (by decide : 10 ^ 10 ≤ 2 ^ 40) (Nat.pow_le_pow_right (by decide) (by decide))))
  show lift (if x.natAbs.log2 < 1920 then some (Str.ofString (toString x)) else none) e = _
  rw [if_pos hl]
  obtain ⟨n, rfl⟩ : ∃ n : Nat, x = n := ⟨x.toNat, by omega⟩
  rw [SX.num_S]
  rfl
theorem join_cons {f : M R} {fs : List (M R)} {acc a : List Nat} {env e : En} {v : Option (Rs R)} (h : f env = some (.ok (.dat (sD a)) e)) (hl : acc.length + a.length ≤ 100000) (h2 : joinD fs (SC (acc ++ a)) e = v) : joinD (f :: fs) (SC acc) env = v := by
  refine bind_go h (bind_go (a := SC a) (e := e) rfl ?_)
  rw [SX.S_cat]
  refine bind_go (a := ()) (e := e) ?_ h2
  rw [decide_eq_true (by rw [SX.S_len, List.length_append, sizeLine_eq]; omega)]
  rfl
theorem join3_x {f g k : M R} {a b c : List Nat} {env e1 e2 e3 : En} (h1 : f env = some (.ok (.dat (sD a)) e1)) (h2 : g e1 = some (.ok (.dat (sD b)) e2)) (h3 : k e2 = some (.ok (.dat (sD c)) e3)) (hl : a.length + b.length + c.length ≤ 100000) : joinD [f, g, k] Str.empty env = some (.ok (.dat (sD (a ++ b ++ c))) e3) :=
  join_cons (acc := []) h1 (by rw [List.length_nil]; omega) (join_cons (acc := a) h2 (by omega) (join_cons (acc := a ++ b) h3 (by rw [List.length_append]; omega) rfl))
section
variable {ps : List (Int × Int)} {d : PyData}
/-- what is laid for a pair: a tuple or a list -/
def prZ (b : Bool) (p : Int × Int) : PyData := if b = true then .list [.int p.1, .int p.2] else .tuple [.int p.1, .int p.2]
theorem pairs_text_ok {b : Bool} (hd : seqD d = some (ps.map (prZ b))) (hb : Bp ps) (hl : ps.length ≤ 100) : F_pairs_text [d] = some (.dat (sD (txt (ps.map pt)))) := runA_eq rfl ⟨[some (.dat d), none, none], by
  show f_pairs_text [some (.dat d), none, none] = _
  unfold f_pairs_text
  have j := joined_ok (ps := ps.map pt) (m := 21) (k := 100) (fun p hp => by
    obtain ⟨x, hx, rfl⟩ := List.mem_map.mp hp
    exact pt_len (hb x hx)) (by rw [List.length_map]; exact hl) (by decide)
  rw [List.map_map] at j
  refine ret_x (pl_x (fz_x (callA_x (acons_x (fz_x (lc_eq (seq_x (get_x rfl) hd) rfl rfl (compM_x (z := prZ b) (fun x => sD (pt x)) ps (by omega) fun x hx => ⟨[some (.dat d), some (.dat (.int x.1)), some (.dat (.int x.2))], by cases b <;> rfl, rfl, ?_, rfl, rfl⟩)) (v_ofWo _)) anil_x) rfl j) rfl) rfl)
  have k := hb x hx
  have l1 := nm_len k.1 k.2.1
  have l2 := nm_len k.2.2.1 k.2.2.2
  exact join3_x (fmt_x (get_x rfl) k.1 k.2.1) (con_x (d := sD [45])) (fmt_x (get_x rfl) k.2.2.1 k.2.2.2) (by rw [List.length_singleton]; omega)⟩
theorem tour_text_ok (hb : Bp ps) (hl : ps.length ≤ 100) : F_tour_text [.list (ps.map prI)] = some (.dat (sD (txt (ps.map pt)))) := runA_eq rfl ⟨[some (.dat (.list (ps.map prI))), none, none], by
  show f_tour_text [some (.dat (.list (ps.map prI))), none, none] = _
  unfold f_tour_text txt
  have j := joinT_x (ps := ps.map pt) (m := 21) (k := 100) (fun p hp => by
    obtain ⟨x, hx, rfl⟩ := List.mem_map.mp hp
    exact pt_len (hb x hx)) (by rw [List.length_map]; exact hl) (by decide)
  rw [List.map_map] at j
  have t := tb_x (op2_x (cb_x (acons_x (get_x (env := [some (.dat (.list (ps.map prI))), none, none]) (i := 0) rfl) anil_x) (vwC_x vwd_x vw0_x) (lenLm_x ps prI)) (con_x (d := .int 0)) vwd_x vwd_x (gtI_x _ _)) vwd_x
  have c : fz (lcW (seqI (get 0)) (gT (gsC (gN 1) (gsC (gN 2) gsN))) yesT (op2 catSD (op2 catSD (cb strD (acons (get 1) anil)) (con (.str "-"))) (cb strD (acons (get 2) anil))) [1, 2]) [some (.dat (.list (ps.map prI))), none, none] = some (.ok (.dat (.list (ps.map fun x => sD (pt x)))) [some (.dat (.list (ps.map prI))), none, none]) :=
    fz_x (lc_eq (seq_x (get_x rfl) rfl) rfl rfl (compM_x (z := prI) (fun x => sD (pt x)) ps (by omega) fun x hx => ⟨[some (.dat (.list (ps.map prI))), some (.dat (.int x.1)), some (.dat (.int x.2))], rfl, rfl, by
      have k := hb x hx
      have l1 := nm_len k.1 k.2.1
      have l2 := nm_len k.2.2.1 k.2.2.2
      exact op2_x (op2_x (cb_x (acons_x (get_x rfl) anil_x) (vwC_x vwd_x vw0_x) (str_nm k.1 k.2.1)) (con_x (d := sD [45])) vwd_x vwd_x (cat_x (by rw [List.length_singleton]; omega))) (cb_x (acons_x (get_x rfl) anil_x) (vwC_x vwd_x vw0_x) (str_nm k.2.2.1 k.2.2.2)) vwd_x vwd_x (cat_x (by rw [List.length_append, List.length_singleton]; omega)), rfl, rfl⟩)) (v_ofWo _)
  cases ps with
  | nil => exact ret_x (pl_x (ifE_f t con_x) rfl)
  | cons a r =>
    rw [decide_eq_true (show (0 : Int) < ((a :: r).length : Nat) by rw [List.length_cons]; omega)] at t
    exact ret_x (pl_x (ifE_t t (txM1_x con_x c vwd_x j)) rfl)⟩
end
end Ov
set_option Elab.async false
set_option linter.all false
set_option maxRecDepth 100000
set_option maxHeartbeats 4000000
set_option exponentiation.threshold 2000
namespace Ov
open PySem L2
/-! reading -/
def vls (l : List Nat) : List Int := (wds l).map fun p => ((dv p : Nat) : Int)
/-- a text is a row's -/
def rOk (l : List Nat) : Bool := (wds l).all wrt && decide (∀ x ∈ vls l, 1 ≤ x) && decide (vls l).Nodup
theorem crowd_vls (l : List Nat) : isCrowd (.tuple ((vls l).map .int)) = (decide (∀ x ∈ vls l, 1 ≤ x) && decide (vls l).Nodup) := by
  show (((vls l).map PyData.int).all isH && decide (intsOf ((vls l).map PyData.int)).Nodup) = _
  have h1 : ∀ m : List Int, intsOf (m.map PyData.int) = m := by
    intro m
    induction m with
    | nil => rfl
    | cons a m ih => show a :: intsOf (m.map _) = _; rw [ih]
  rw [h1]
  congr 1
  rw [Bool.eq_iff_iff, List.all_eq_true, decide_eq_true_eq]
  constructor
  · intro h x hx
    exact of_decide_eq_true (h (.int x) (List.mem_map.mpr ⟨x, hx, rfl⟩))
  · intro h d hd
    obtain ⟨x, hx, rfl⟩ := List.mem_map.mp hd
    exact decide_eq_true (h x hx)
/-- what the law's own reading of a number gives -/
def rdD (p : List Nat) : PyData := if wrt p = true then .int ((dv p : Nat) : Int) else .none
theorem inN_x (ps : List (List Nat)) : inF false .none (.list (ps.map rdD)) = some (.bool (!ps.all wrt)) := by
  have at_ : (ps.map rdD).all atomD = true := List.all_eq_true.mpr fun d hd => by
    obtain ⟨p, _, rfl⟩ := List.mem_map.mp hd
    unfold rdD
    split <;> rfl
  show (if (atomD .none && (ps.map rdD).all atomD) = true then some (PyData.bool (false ^^ (ps.map rdD).any fun z => z.eqv .none)) else none) = _
  rw [if_pos (by rw [at_]; rfl), Bool.false_xor]
  congr 2
  clear at_
  induction ps with
  | nil => rfl
  | cons p r ih =>
    rw [List.map_cons, List.any_cons, List.all_cons, ih]
    unfold rdD
    cases wrt p <;> rfl
section
variable {c : Ad} {l : List Nat}
theorem row_in_ok (hl : l.length ≤ 900) : F_row_in_x c [sD l] = some (if rOk l = true then .inl (.dat (.tuple ((vls l).map .int))) else .inr (c.BadText, "text", sD l)) := by
  have wl := wds_len l
  have wb : ∀ p ∈ wds l, p.length ≤ 100000 := fun p hp => by have := wds_le hp; omega
  have s0 : s_row_in_x_0 c [some (.dat (sD l)), none, none, none] = some (.ok .nx [some (.dat (sD l)), some (.dat (.list ((wds l).map sD))), none, none]) := by
    unfold s_row_in_x_0
    exact set_x (pl_x (fz_x (callA_x (acons_x (get_x rfl) anil_x) rfl (words_in_ok (by omega))) rfl) rfl) (Nat.le_of_ble_eq_true rfl)
  have t1 : tb1 (cb allD (acons (fz (lcW (seqI (get 1)) (gN 2) yesT (fz (callA F_is_written_number (acons (get 2) anil))) [2])) anil)) [some (.dat (sD l)), some (.dat (.list ((wds l).map sD))), none, none] = some (.ok ((wds l).all wrt) [some (.dat (sD l)), some (.dat (.list ((wds l).map sD))), none, none]) :=
    wall_x (ps := wds l) (g := wrt) (d := .list ((wds l).map sD)) rfl rfl (by omega) (fun p hp => wn_ok (wb p hp)) rfl rfl fun p => ⟨[some (.dat (sD l)), some (.dat (.list ((wds l).map sD))), some (.dat (sD p)), none], rfl, rfl, rfl, rfl⟩
  by_cases c1 : (wds l).all wrt = true
  case neg =>
    rw [Bool.not_eq_true] at c1
    rw [c1] at t1
    have e : rOk l = false := by unfold rOk; rw [c1]; rfl
    rw [e]
    refine runX_ex rfl ?_
    show f_row_in_x c [some (.dat (sD l)), none, none, none] = _
    unfold f_row_in_x s_row_in_x_1
    exact then_x s0 (then_ex (ifS_t (notT_x t1) (raise1_x (acons_x (get_x rfl) anil_x) rfl)))
  have s1 : s_row_in_x_1 c [some (.dat (sD l)), some (.dat (.list ((wds l).map sD))), none, none] = some (.ok .nx [some (.dat (sD l)), some (.dat (.list ((wds l).map sD))), none, none]) := by
    unfold s_row_in_x_1
    rw [c1] at t1
    exact ifS_f (notT_x t1) nxt_x
  have vm : (wds l).map (fun p => PyData.int ((dv p : Nat) : Int)) = (vls l).map .int := by unfold vls; rw [List.map_map]; rfl
  have s2 : s_row_in_x_2 c [some (.dat (sD l)), some (.dat (.list ((wds l).map sD))), none, none] = some (.ok .nx [some (.dat (sD l)), some (.dat (.list ((wds l).map sD))), none, some (.dat (.tuple ((vls l).map .int)))]) := by
    unfold s_row_in_x_2
    have cm := compM_x (env := [some (.dat (sD l)), some (.dat (.list ((wds l).map sD))), none, none]) (p := gN 2) (ft := yesT) (fe := cb intTD (acons (get 2) anil)) (vs := [2]) (z := sD) (fun p => PyData.int ((dv p : Nat) : Int)) (wds l) (by omega) fun p hp => ⟨[some (.dat (sD l)), some (.dat (.list ((wds l).map sD))), some (.dat (sD p)), none], rfl, rfl, by
      obtain ⟨a, b, d, _⟩ := wrt_d (List.all_eq_true.mp c1 p hp)
      exact cb_x (acons_x (get_x rfl) anil_x) (vwC_x vwd_x vw0_x) (int_wrt (dgt_of d) a b), rfl, rfl⟩
    rw [vm] at cm
    exact set_x (e := [some (.dat (sD l)), some (.dat (.list ((wds l).map sD))), none, none]) (w := .dat (.tuple ((vls l).map .int))) (pl_x (cb_x (acons_x (fz_x (lc_eq (seq_x (get_x rfl) rfl) rfl rfl cm) (v_ofWo _)) anil_x) (vwC_x vwd_x vw0_x) (d := .tuple ((vls l).map .int)) rfl) rfl) (Nat.le_of_ble_eq_true rfl)
  have t3 : tb1 (fz (callA F_is_row (acons (get 3) anil))) [some (.dat (sD l)), some (.dat (.list ((wds l).map sD))), none, some (.dat (.tuple ((vls l).map .int)))] = some (.ok (decide (∀ x ∈ vls l, 1 ≤ x) && decide (vls l).Nodup) [some (.dat (sD l)), some (.dat (.list ((wds l).map sD))), none, some (.dat (.tuple ((vls l).map .int)))]) :=
    tb_x (fz_x (callA_x (acons_x (get_x rfl) anil_x) rfl (is_row_ok _ fun ds e => by
      injection e with e
      rw [← e, List.length_map]
      unfold vls
      rw [List.length_map]
      omega)) rfl) (by rw [crowd_vls]; exact vwd_x)
  have e : rOk l = (decide (∀ x ∈ vls l, 1 ≤ x) && decide (vls l).Nodup) := by unfold rOk; rw [c1, Bool.true_and]
  rw [← e] at t3
  cases q : rOk l with
  | false =>
    rw [q] at t3
    refine runX_ex rfl ?_
    show f_row_in_x c [some (.dat (sD l)), none, none, none] = _
    unfold f_row_in_x s_row_in_x_3
    exact then_x s0 (then_x s1 (then_x s2 (then_ex (ifS_t (notT_x t3) (raise1_x (acons_x (get_x rfl) anil_x) rfl)))))
  | true =>
    rw [q] at t3
    refine runX_rt rfl ⟨[some (.dat (sD l)), some (.dat (.list ((wds l).map sD))), none, some (.dat (.tuple ((vls l).map .int)))], ?_⟩
    show f_row_in_x c [some (.dat (sD l)), none, none, none] = _
    unfold f_row_in_x s_row_in_x_3 s_row_in_x_4
    exact then_x s0 (then_x s1 (then_x s2 (then_x (ifS_f (notT_x t3) nxt_x) (ret_x (pl_x (get_x rfl) rfl)))))
/-- figures -/
theorem figures_ok (hl : l.length ≤ 900) : F_figures [sD l] = some (.dat (if (wsp l).all wrt = true then .list (((wsp l).map fun p => ((dv p : Nat) : Int)).map .int) else .none)) := runA_eq rfl ⟨[some (.dat (sD l)), some (.dat (.list ((wsp l).map rdD))), none], by
  show f_figures [some (.dat (sD l)), none, none] = _
  unfold f_figures s_figures_0 s_figures_1
  have wl := wsp_len l
  have wb : ∀ p ∈ wsp l, p.length ≤ 100000 := fun p hp => by have := wsp_le hp; omega
  have cm := compM_x (env := [some (.dat (sD l)), none, none]) (p := gN 2) (ft := yesT) (fe := fz (callA F_digits (acons (get 2) anil))) (vs := [2]) (z := sD) rdD (wsp l) (by omega) fun p hp => ⟨[some (.dat (sD l)), none, some (.dat (sD p))], rfl, rfl, by
      exact fz_x (w := .dat (rdD p)) (callA_x (acons_x (get_x rfl) anil_x) rfl (digits_ok (wb p hp))) rfl, rfl, rfl⟩
  have sp : fz (splitW (get 0) (con (.str " "))) [some (.dat (sD l)), none, none] = some (.ok (.dat (.list ((wsp l).map sD))) [some (.dat (sD l)), none, none]) := by
    rw [map_SC, ← split_w]
    exact fz_x (splitW_x (get_x rfl) con_x ⟨by decide, by rw [SX.S_len]; omega⟩) (v_ofWo _)
  refine then_x (set_x (pl_x (fz_x (lc_eq (seq_x sp rfl) rfl rfl cm) (v_ofWo _)) rfl) (Nat.le_of_ble_eq_true rfl)) ?_
  have t := tb_x (op2_x (con_x (d := .none)) (get_x (env := [some (.dat (sD l)), some (.dat (.list ((wsp l).map rdD))), none]) (i := 1) rfl) vwd_x vwd_x (inN_x (wsp l))) vwd_x
  cases q : (wsp l).all wrt with
  | true =>
    rw [q] at t
    have vm : (wsp l).map rdD = ((wsp l).map fun p => ((dv p : Nat) : Int)).map .int := by
      rw [List.map_map]
      exact List.map_congr_left fun p hp => if_pos (List.all_eq_true.mp q p hp)
    have g := get_x (env := [some (.dat (sD l)), some (.dat (.list ((wsp l).map rdD))), none]) (i := 1) rfl
    rw [if_pos rfl, ← vm]
    exact ret_x (pl_x (ifE_f t g) rfl)
  | false =>
    rw [q] at t
    exact ret_x (pl_x (ifE_t t con_x) rfl)⟩
theorem crowd_in_ok (hl : l.length ≤ 900) : F_crowd_in [sD l] = some (.dat (if rOk l = true then .tuple ((vls l).map .int) else .none)) := by
  have t0 : tb1 (op2 (eqA false) (get 0) (con (.str "-"))) [some (.dat (sD l)), none] = some (.ok (decide (l = [45])) [some (.dat (sD l)), none]) :=
    tb_x (op2_x (get_x rfl) con_x vwd_x vwd_x (show eqA false (sD l) (sD [45]) = _ by rw [eqS_x, Bool.false_xor])) vwd_x
  have s0 : s_crowd_in_0 [some (.dat (sD l)), none] = some (.ok .nx [some (.dat (sD l)), some (.dat (if (wds l).all wrt = true then .list ((vls l).map .int) else .none))]) := by
    unfold s_crowd_in_0 vls wds
    by_cases q : l = [45]
    · rw [decide_eq_true q] at t0
      rw [if_pos q]
      exact set_x (pl_x (ifE_t t0 (lst_x anil_x rfl (by decide))) rfl) (Nat.le_of_ble_eq_true rfl)
    · rw [decide_eq_false q] at t0
      rw [if_neg q]
      exact set_x (pl_x (ifE_f t0 (fz_x (callA_x (acons_x (get_x rfl) anil_x) rfl (figures_ok hl)) rfl)) rfl) (Nat.le_of_ble_eq_true rfl)
  cases c1 : (wds l).all wrt with
  | false =>
    rw [c1] at s0
    have e : rOk l = false := by unfold rOk; rw [c1]; rfl
    rw [e]
    refine runA_eq rfl ⟨[some (.dat (sD l)), some (.dat .none)], ?_⟩
    show f_crowd_in [some (.dat (sD l)), none] = _
    unfold f_crowd_in s_crowd_in_1
    exact then_x s0 (then_r (ifS_t (orT_t (tb_x (isNf_x (get_x rfl) rfl) vwd_x)) (ret_x (pl_x con_x rfl))))
  | true =>
    rw [c1] at s0
    have vn : ∀ x ∈ vls l, 0 ≤ x := fun x hx => by
      unfold vls at hx
      obtain ⟨p, _, rfl⟩ := List.mem_map.mp hx
      omega
    have e : rOk l = (!decide ((0 : Int) ∈ vls l) && decide (vls l).Nodup) := by
      unfold rOk
      rw [c1, Bool.true_and]
      congr 1
      rw [← decide_not]
      exact decide_eq_decide.mpr ⟨fun h z => by have := h 0 z; omega, fun h x hx => by
        have := vn x hx
        have : x ≠ 0 := fun z => h (z ▸ hx)
        omega⟩
    have wl := wds_len l
    have hv : (vls l).length ≤ 1000 := by unfold vls; rw [List.length_map]; omega
    refine runA_eq rfl ⟨[some (.dat (sD l)), some (.dat (.list ((vls l).map .int)))], ?_⟩
    show f_crowd_in [some (.dat (sD l)), none] = _
    unfold f_crowd_in s_crowd_in_1 s_crowd_in_2
    refine then_x s0 ?_
    have g := get_x (env := [some (.dat (sD l)), some (.dat (.list ((vls l).map .int)))]) (i := 1) rfl
    have t1 := tb_x (isNf_x g (x := false) rfl) vwd_x
    have t2 := tb_x (op2_x (con_x (d := .int 0)) g vwd_x vwd_x (inF_ints false 0 (vls l) rfl)) vwd_x
    have t3 := tb_x (op2_x (op1_x g vwd_x (lenSetG_v hv)) (cb_x (acons_x g anil_x) (vwC_x vwd_x vw0_x) (lenLm_x (vls l) PyData.int)) vwd_x vwd_x (eqI_t _ _)) vwd_x
    rw [difN_iff] at t3
    rw [Bool.false_xor] at t2
    cases q : decide ((0 : Int) ∈ vls l) with
    | true =>
      rw [q] at t2 e
      rw [e]
      exact then_r (ifS_t (orT_f t1 (orT_t t2)) (ret_x (pl_x con_x rfl)))
    | false =>
      rw [q] at t2 e
      cases q2 : decide (vls l).Nodup with
      | false =>
        rw [q2] at t3 e
        rw [e]
        exact then_r (ifS_t (orT_f t1 (orT_f t2 t3)) (ret_x (pl_x con_x rfl)))
      | true =>
        rw [q2] at t3 e
        rw [e]
        exact then_x (ifS_f (orT_f t1 (orT_f t2 t3)) nxt_x) (ret_x (pl_x (cb_x (acons_x g anil_x) (vwC_x vwd_x vw0_x) rfl) rfl))
end
end Ov
set_option Elab.async false
set_option linter.all false
set_option maxRecDepth 100000
set_option maxHeartbeats 4000000
set_option exponentiation.threshold 2000
namespace Ov
open PySem L2
theorem app_x {ds : List PyData} {d : PyData} (h : ds.length < 1000000) : appD ds [d] = some (ds ++ [d], .none) := by
  show (if ds.length + 1 ≤ 1000000 then some () else none).map _ = _
  rw [if_pos (by omega)]
  rfl
/-! lists of pairs, read -/
def pOk (ws : List (List Nat)) : Bool := ws.all fun p => wpr (dsp p)
def prv (p : List Nat) : Int × Int := ((dv ((dsp p).getD 0 []) : Nat), (dv ((dsp p).getD 1 []) : Nat))
theorem wpr_d {p : List Nat} (h : wpr (dsp p) = true) : ∃ a b, dsp p = [a, b] ∧ wrt a = true ∧ wrt b = true ∧ prv p = (((dv a : Nat) : Int), ((dv b : Nat) : Int)) := by
  unfold wpr at h
  rw [Bool.and_eq_true, decide_eq_true_eq] at h
  obtain ⟨a, b, e⟩ : ∃ a b, dsp p = [a, b] := by
    have h1 := h.1
    revert h1
    generalize dsp p = z
    intro h1
    match z, h1 with
    | [a, b], _ => exact ⟨a, b, rfl⟩
  have w := h.2
  rw [e] at w
  simp only [List.all_cons, List.all_nil, Bool.and_true, Bool.and_eq_true] at w
  exact ⟨a, b, e, w.1, w.2, by unfold prv; rw [e]; rfl⟩
section
variable {c : Ad} {l : List Nat}
theorem splD_x {env : En} {i : Nat} {p : List Nat} (h : env[i]? = some (some (.dat (sD p)))) (hl : p.length ≤ 100000) : fz (splitW (get i) (con (.str "-"))) env = some (.ok (.dat (.list ((dsp p).map sD))) env) := by
  rw [map_SC, ← split_d]
  exact fz_x (splitW_x (get_x h) con_x ⟨by decide, by rw [SX.S_len]; omega⟩) (v_ofWo _)
def ptsD (p : List Nat) : PyData := .list ((dsp p).map sD)
theorem pnn0 (hl : l.length ≤ 900) : (setS 1 (pl (fz (lcW (seqI (fz (callA F_words_in (acons (get 0) anil)))) (gN 2) yesT (fz (splitW (get 2) (con (.str "-")))) [2])))) [some (.dat (sD l)), none, none, none, none, none] = some (.ok .nx [some (.dat (sD l)), some (.dat (.list ((wds l).map ptsD))), none, none, none, none]) := by
  have wl := wds_len l
  have cm := compM_x (env := [some (.dat (sD l)), none, none, none, none, none]) (p := gN 2) (ft := yesT) (fe := fz (splitW (get 2) (con (.str "-")))) (vs := [2]) (z := sD) ptsD (wds l) (by omega) fun p hp => ⟨[some (.dat (sD l)), none, some (.dat (sD p)), none, none, none], rfl, rfl, splD_x (p := p) (i := 2) rfl (by have := wds_le hp; omega), rfl, rfl⟩
  exact set_x (e := [some (.dat (sD l)), none, none, none, none, none]) (pl_x (fz_x (lc_eq (seq_x (fz_x (callA_x (acons_x (get_x rfl) anil_x) rfl (words_in_ok (by omega))) rfl) rfl) rfl rfl cm) (v_ofWo _)) rfl) (Nat.le_of_ble_eq_true rfl)
theorem pnn1 (hl : l.length ≤ 900) : notT (tb1 (cb allD (acons (fz (lcW (seqI (get 1)) (gN 3) yesT (fz (callA F_is_written_pair (acons (get 3) anil))) [3])) anil))) [some (.dat (sD l)), some (.dat (.list ((wds l).map ptsD))), none, none, none, none] = some (.ok (!pOk (wds l)) [some (.dat (sD l)), some (.dat (.list ((wds l).map ptsD))), none, none, none, none]) := by
  have wl := wds_len l
  have cm := compM_x (env := [some (.dat (sD l)), some (.dat (.list ((wds l).map ptsD))), none, none, none, none]) (p := gN 3) (ft := yesT) (fe := fz (callA F_is_written_pair (acons (get 3) anil))) (vs := [3]) (z := ptsD) (fun p => .bool (wpr (dsp p))) (wds l) (by omega) fun p hp => ⟨[some (.dat (sD l)), some (.dat (.list ((wds l).map ptsD))), none, some (.dat (ptsD p)), none, none], rfl, rfl, by
    have l1 := wds_le hp
    have l2 := dsp_len p
    exact fz_x (callA_x (acons_x (get_x rfl) anil_x) rfl (wp_ok (ps := dsp p) (by omega) fun q hq => by have := dsp_le hq; omega)) rfl, rfl, rfl⟩
  exact notT_x (tb_x (cb_x (acons_x (fz_x (lc_eq (seq_x (get_x rfl) rfl) rfl rfl cm) (v_ofWo _)) anil_x) (vwC_x vwd_x vw0_x) (all_map (wds l) fun p => wpr (dsp p))) vwd_x)
theorem pnn2 (hl : l.length ≤ 900) (ho : pOk (wds l) = true) : (lcW (seqI (get 1)) (gTL (gsC (gN 4) (gsC (gN 5) gsN))) yesT (tupD (acons (cb intTD (acons (get 4) anil)) (acons (cb intTD (acons (get 5) anil)) anil))) [4, 5]) [some (.dat (sD l)), some (.dat (.list ((wds l).map ptsD))), none, none, none, none] = some (.ok (.own (dats (((wds l).map prv).map prI))) [some (.dat (sD l)), some (.dat (.list ((wds l).map ptsD))), none, none, none, none]) := by
  have wl := wds_len l
  rw [List.map_map]
  refine lc_eq (seq_x (get_x rfl) rfl) rfl rfl (compM_x (z := ptsD) (prI ∘ prv) (wds l) (by omega) fun p hp => ?_)
  obtain ⟨a, b, e, wa, wb, v⟩ := wpr_d (List.all_eq_true.mp ho p hp)
  obtain ⟨a1, a2, a3, _⟩ := wrt_d wa
  obtain ⟨b1, b2, b3, _⟩ := wrt_d wb
  refine ⟨[some (.dat (sD l)), some (.dat (.list ((wds l).map ptsD))), none, none, some (.dat (sD a)), some (.dat (sD b))], by unfold ptsD; rw [e]; rfl, rfl, ?_, rfl, rfl⟩
  show tupD _ _ = some (.ok (.dat (prI (prv p))) _)
  rw [v]
  exact tup_x (acons_x (cb_x (acons_x (get_x rfl) anil_x) (vwC_x vwd_x vw0_x) (int_wrt (dgt_of a3) a1 a2)) (acons_x (cb_x (acons_x (get_x rfl) anil_x) (vwC_x vwd_x vw0_x) (int_wrt (dgt_of b3) b1 b2)) anil_x)) rfl (Nat.le_of_ble_eq_true rfl)
theorem pairs_in_x_ok (hl : l.length ≤ 900) : F_pairs_in_x c [sD l] = some (if pOk (wds l) = true then .inl (.dat (.list (((wds l).map prv).map prI))) else .inr (c.BadText, "text", sD l)) := by
  have t := pnn1 hl
  cases q : pOk (wds l) with
  | false =>
    rw [q] at t
    refine runX_ex rfl ?_
    show f_pairs_in_x c [some (.dat (sD l)), none, none, none, none, none] = _
    unfold f_pairs_in_x s_pairs_in_x_0 s_pairs_in_x_1
    exact then_x (pnn0 hl) (then_ex (ifS_t t (raise1_x (acons_x (get_x rfl) anil_x) rfl)))
  | true =>
    rw [q] at t
    refine runX_rt rfl ⟨[some (.dat (sD l)), some (.dat (.list ((wds l).map ptsD))), none, none, none, none], ?_⟩
    show f_pairs_in_x c [some (.dat (sD l)), none, none, none, none, none] = _
    unfold f_pairs_in_x s_pairs_in_x_0 s_pairs_in_x_1 s_pairs_in_x_2
    exact then_x (pnn0 hl) (then_x (ifS_f t nxt_x) (ret_x (pl_x (fz_x (pnn2 hl q) (v_ofWo _)) rfl)))
theorem pairs_in_ok (hl : l.length ≤ 900) (ho : pOk (wds l) = true) : F_pairs_in [sD l] = some (.own (dats (((wds l).map prv).map prI))) := by
  have t := pnn1 hl
  rw [ho] at t
  refine runA_eq rfl ⟨[some (.dat (sD l)), some (.dat (.list ((wds l).map ptsD))), none, none, none, none], ?_⟩
  show f_pairs_in [some (.dat (sD l)), none, none, none, none, none] = _
  unfold f_pairs_in s_pairs_in_0 s_pairs_in_1 s_pairs_in_2
  exact then_x (pnn0 hl) (then_x (ifS_f t nxt_x) (ret_x (pnn2 hl ho)))
/-! the law's own -/
theorem tour_loop (hl : l.length ≤ 900) : ∀ (ws : List (List Nat)) (acc : List (Int × Int)) (w2 w3 : Option Wv), (∀ p ∈ ws, p.length ≤ 900) → acc.length + ws.length ≤ 2000 →
    ∃ v2 v3, forM (gN 2) b_tour_in_1 (ws.map sD) [some (.dat (sD l)), some (.own (dats (acc.map prI))), w2, w3, none] = some (.ok (if pOk ws = true then .nx else .rt (.dat .none)) [some (.dat (sD l)), some (.own (dats ((if pOk ws = true then acc ++ ws.map prv else acc ++ (ws.takeWhile fun p => wpr (dsp p)).map prv).map prI))), v2, v3, none])
  | [], acc, w2, w3, _, _ => ⟨w2, w3, by
    show forM _ _ [] _ = _
    rw [for_nil]
    show _ = some (Rs.ok Fl.nx [some (.dat (sD l)), some (.own (dats ((acc ++ [].map prv).map prI))), w2, w3, none])
    rw [List.map_nil, List.append_nil]⟩
  | p :: ws, acc, w2, w3, hb, hn => by
    have lp := hb p (List.mem_cons_self ..)
    have l2 := dsp_len p
    rw [List.length_cons] at hn
    have s1 : setS 3 (pl (fz (lcW (seqI (fz (splitW (get 2) (con (.str "-"))))) (gN 4) yesT (fz (callA F_digits (acons (get 4) anil))) [4]))) [some (.dat (sD l)), some (.own (dats (acc.map prI))), some (.dat (sD p)), w3, none] = some (.ok .nx [some (.dat (sD l)), some (.own (dats (acc.map prI))), some (.dat (sD p)), some (.dat (.list ((dsp p).map rdD))), none]) := by
      have cm := compM_x (env := [some (.dat (sD l)), some (.own (dats (acc.map prI))), some (.dat (sD p)), w3, none]) (p := gN 4) (ft := yesT) (fe := fz (callA F_digits (acons (get 4) anil))) (vs := [4]) (z := sD) rdD (dsp p) (by omega) fun q hq => ⟨[some (.dat (sD l)), some (.own (dats (acc.map prI))), some (.dat (sD p)), w3, some (.dat (sD q))], rfl, rfl, fz_x (w := .dat (rdD q)) (callA_x (acons_x (get_x rfl) anil_x) rfl (digits_ok (by have := dsp_le hq; omega))) rfl, rfl, rfl⟩
      exact set_x (e := [some (.dat (sD l)), some (.own (dats (acc.map prI))), some (.dat (sD p)), w3, none]) (pl_x (fz_x (lc_eq (seq_x (splD_x (p := p) (i := 2) rfl (by omega)) rfl) rfl rfl cm) (v_ofWo _)) rfl) (Nat.le_of_ble_eq_true rfl)
    have t1 := tb_x (op2_x (cb_x (acons_x (get_x (env := [some (.dat (sD l)), some (.own (dats (acc.map prI))), some (.dat (sD p)), some (.dat (.list ((dsp p).map rdD))), none]) (i := 3) rfl) anil_x) (vwC_x vwd_x vw0_x) (lenLm_x (dsp p) rdD)) (con_x (d := .int 2)) vwd_x vwd_x (eqI_t _ _)) vwd_x
    have t2 := tb_x (op2_x (con_x (d := .none)) (get_x (env := [some (.dat (sD l)), some (.own (dats (acc.map prI))), some (.dat (sD p)), some (.dat (.list ((dsp p).map rdD))), none]) (i := 3) rfl) vwd_x vwd_x (inN_x (dsp p))) vwd_x
    have dl : decide (((dsp p).length : Int) = 2) = decide ((dsp p).length = 2) := decide_eq_decide.mpr (by omega)
    rw [dl] at t1
    cases q : wpr (dsp p) with
    | false =>
      have po : pOk (p :: ws) = false := by unfold pOk; rw [List.all_cons, q]; rfl
      rw [po]
      refine ⟨some (.dat (sD p)), some (.dat (.list ((dsp p).map rdD))), ?_⟩
      have tw : (p :: ws).takeWhile (fun p => wpr (dsp p)) = [] := by rw [List.takeWhile_cons, q]; rfl
      rw [tw]
      simp only [Bool.false_eq_true, if_false, List.map_nil, List.append_nil]
      rw [List.map_cons]
      refine for_rt (e := [some (.dat (sD l)), some (.own (dats (acc.map prI))), some (.dat (sD p)), w3, none]) rfl ?_
      unfold b_tour_in_1
      refine then_x s1 (then_r ?_)
      unfold wpr at q
      cases q1 : decide ((dsp p).length = 2) with
      | false =>
        rw [q1] at t1
        exact ifS_t (orT_t t1) (ret_x (pl_x con_x rfl))
      | true =>
        rw [q1] at t1 q
        rw [Bool.true_and] at q
        rw [q] at t2
        exact ifS_t (orT_f t1 t2) (ret_x (pl_x con_x rfl))
    | true =>
      obtain ⟨a, b, e, wa, wb, v⟩ := wpr_d q
      have q' := q
      unfold wpr at q'
      rw [Bool.and_eq_true] at q'
      rw [q'.1] at t1
      rw [q'.2] at t2
      have ap : exprS (mthE 1 appD (acons (tupD (acons (op2 ixD (get 3) (con (.int 0))) (acons (op2 ixD (get 3) (con (.int 1))) anil))) anil)) [some (.dat (sD l)), some (.own (dats (acc.map prI))), some (.dat (sD p)), some (.dat (.list ((dsp p).map rdD))), none] = some (.ok .nx [some (.dat (sD l)), some (.own (dats ((acc ++ [prv p]).map prI))), some (.dat (sD p)), some (.dat (.list ((dsp p).map rdD))), none]) := by
        rw [e]
        have ra : rdD a = .int ((dv a : Nat) : Int) := if_pos wa
        have rb : rdD b = .int ((dv b : Nat) : Int) := if_pos wb
        have i0 : ixD (.list ([a, b].map rdD)) (.int ((0 : Nat) : Int)) = some (.int ((dv a : Nat) : Int)) := (ixL_map (z := rdD) (l := [a, b]) (k := 0) rfl).trans (by rw [ra])
        have i1 : ixD (.list ([a, b].map rdD)) (.int ((1 : Nat) : Int)) = some (.int ((dv b : Nat) : Int)) := (ixL_map (z := rdD) (l := [a, b]) (k := 1) rfl).trans (by rw [rb])
        have tp : tupD (acons (op2 ixD (get 3) (con (.int 0))) (acons (op2 ixD (get 3) (con (.int 1))) anil)) [some (.dat (sD l)), some (.own (dats (acc.map prI))), some (.dat (sD p)), some (.dat (.list ([a, b].map rdD))), none] = some (.ok (.dat (prI (prv p))) [some (.dat (sD l)), some (.own (dats (acc.map prI))), some (.dat (sD p)), some (.dat (.list ([a, b].map rdD))), none]) := by
          rw [v]
          exact tup_x (acons_x (op2_x (get_x (i := 3) rfl) con_x vwd_x vwd_x i0) (acons_x (op2_x (get_x (i := 3) rfl) con_x vwd_x vwd_x i1) anil_x)) rfl (Nat.le_of_ble_eq_true rfl)
        have := mth_x (env := [some (.dat (sD l)), some (.own (dats (acc.map prI))), some (.dat (sD p)), some (.dat (.list ([a, b].map rdD))), none]) (i := 1) (fo := appD) (b0 := acc.map prI) (bs := acc.map prI) rfl (acons_x tp anil_x) rfl rfl (z := (acc.map prI ++ [prI (prv p)], .none)) (app_x (by rw [List.length_map]; omega))
        have mp : (acc ++ [prv p]).map prI = acc.map prI ++ [prI (prv p)] := by rw [List.map_append]; rfl
        rw [mp]
        exact expr_x this
      obtain ⟨v2, v3, f⟩ := tour_loop hl ws (acc ++ [prv p]) (some (.dat (sD p))) (some (.dat (.list ((dsp p).map rdD)))) (fun x hx => hb x (List.mem_cons_of_mem _ hx)) (by rw [List.length_append, List.length_singleton]; omega)
      have po : pOk (p :: ws) = pOk ws := by unfold pOk; rw [List.all_cons, q]; rfl
      have tw : (p :: ws).takeWhile (fun p => wpr (dsp p)) = p :: ws.takeWhile (fun p => wpr (dsp p)) := by rw [List.takeWhile_cons, q]; rfl
      rw [po, tw]
      simp only [List.append_assoc, List.singleton_append] at f
      refine ⟨v2, v3, Eq.trans ?_ f⟩
      rw [List.map_cons]
      refine for_go (e := [some (.dat (sD l)), some (.own (dats (acc.map prI))), some (.dat (sD p)), w3, none]) rfl ?_
      unfold b_tour_in_1
      exact then_x s1 (then_x (ifS_f (orT_f t1 t2) nxt_x) ap)
theorem tour_in_ok (hl : l.length ≤ 900) : ∃ w, F_tour_in [sD l] = some w ∧ ofW w = some (.dat (if pOk (wds l) = true then .list (((wds l).map prv).map prI) else .none)) := by
  have wl := wds_len l
  obtain ⟨v2, v3, f⟩ := tour_loop hl (wds l) [] none none (fun p hp => by have := wds_le hp; omega) (by rw [List.length_nil]; omega)
  have t0 : tb1 (op2 (eqA true) (get 0) (con (.str "-"))) [some (.dat (sD l)), some (.own (dats [])), none, none, none] = some (.ok (!decide (l = [45])) [some (.dat (sD l)), some (.own (dats [])), none, none, none]) :=
    tb_x (op2_x (get_x rfl) con_x vwd_x vwd_x (show eqA true (sD l) (sD [45]) = _ by rw [eqS_x, Bool.true_xor])) vwd_x
  have sq : ifE (tb1 (op2 (eqA true) (get 0) (con (.str "-")))) (fz (splitW (get 0) (con (.str " ")))) (lstD anil) [some (.dat (sD l)), some (.own (dats [])), none, none, none] = some (.ok (.dat (.list ((wds l).map sD))) [some (.dat (sD l)), some (.own (dats [])), none, none, none]) := by
    unfold wds
    by_cases q : l = [45]
    · rw [decide_eq_true q] at t0
      rw [if_pos q]
      exact ifE_f t0 (lst_x anil_x rfl (by decide))
    · rw [decide_eq_false q] at t0
      rw [if_neg q, map_SC, ← split_w]
      exact ifE_t t0 (fz_x (splitW_x (get_x rfl) con_x ⟨by decide, by rw [SX.S_len]; omega⟩) (v_ofWo _))
  have s0 : s_tour_in_0 [some (.dat (sD l)), none, none, none, none] = some (.ok .nx [some (.dat (sD l)), some (.own (dats [])), none, none, none]) := by
    unfold s_tour_in_0
    exact set_x (lstW_x anil_x rfl (by decide)) (Nat.le_of_ble_eq_true rfl)
  have s1 := for_x (fi := seqI (ifE (tb1 (op2 (eqA true) (get 0) (con (.str "-")))) (fz (splitW (get 0) (con (.str " ")))) (lstD anil))) (p := gN 2) (st := b_tour_in_1) (seq_x sq rfl) f
  cases q : pOk (wds l) with
  | true =>
    rw [q] at s1
    refine ⟨.own (dats (((wds l).map prv).map prI)), runA_eq rfl ⟨[some (.dat (sD l)), none, v2, v3, none], ?_⟩, v_ofWo _⟩
    show f_tour_in [some (.dat (sD l)), none, none, none, none] = _
    unfold f_tour_in s_tour_in_1 s_tour_in_2
    exact then_x s0 (then_x s1 (move_x rfl))
  | false =>
    rw [q] at s1
    have h := then_x (su := thenS s_tour_in_1 s_tour_in_2) s0 (then_r (st := s_tour_in_1) s1)
    exact ⟨.dat .none, runA_eq rfl ⟨_, h⟩, rfl⟩
end
end Ov
set_option Elab.async false
set_option linter.all false
set_option maxRecDepth 100000
set_option maxHeartbeats 4000000
set_option exponentiation.threshold 2000
namespace Ov
open PySem L2
/-! both answers -/
def badD (l : List Nat) : PyData := .tuple [.str "bad", sD l]
def resD (w : Nat) (l : List Nat) : PyData :=
  if w = 0 then (if rOk l = true then .tuple ((vls l).map .int) else badD l)
  else (if pOk (wds l) = true then .list (((wds l).map prv).map prI) else badD l)
def kwR (c : Ad) : List PyData → Option Xo := fun ds => if ds.length = 1 then (F_row_in_x c) ([0].map fun i => ds.getD i .none) else none
def kwP (c : Ad) : List PyData → Option Xo := fun ds => if ds.length = 1 then (F_pairs_in_x c) ([0].map fun i => ds.getD i .none) else none
theorem kwR_x {c : Ad} {d : PyData} {o : Option Xo} (h : F_row_in_x c [d] = o) : kwR c [d] = o := h
theorem kwP_x {c : Ad} {d : PyData} {o : Option Xo} (h : F_pairs_in_x c [d] = o) : kwP c [d] = o := h
section
variable {c : Ad} {l : List Nat}
theorem told_end {w : Nat} {d : PyData} {fb : M Fl} (h : (keepS 2 4 3 [c.BadLine, c.BadText] (ifW (tb1 (op2 (eqA false) (get 0) (con (.int 0)))) (callX (kwR c) (acons (get 1) anil)) (callX (kwP c) (acons (get 1) anil)))) [some (.dat (nI w)), some (.dat (sD l)), some (.dat .none), some (.dat .none), none, none] = some (.ok .nx [some (.dat (nI w)), some (.dat (sD l)), some (.dat d), some (.dat .none), none, none])) : F_told c [nI w, sD l] = some (.dat d) := by
  refine runA_eq rfl ⟨[some (.dat (nI w)), some (.dat (sD l)), some (.dat d), some (.dat .none), none, none], ?_⟩
  show f_told c [some (.dat (nI w)), some (.dat (sD l)), none, none, none, none] = _
  unfold f_told s_told_0 s_told_1 s_told_2
  refine then_x (un_x (d := .tuple [.none, .none]) (tup_x (acons_x con_x (acons_x con_x anil_x)) rfl (Nat.le_of_ble_eq_true rfl)) rfl) (then_x h (then_r (ifS_t (tb_x (isNf_x (get_x rfl) rfl) vwd_x) (ret_x (pl_x (get_x rfl) rfl)))))
theorem told_bad (nd : Nd c) {w : Nat} (h : (keepS 2 4 3 [c.BadLine, c.BadText] (ifW (tb1 (op2 (eqA false) (get 0) (con (.int 0)))) (callX (kwR c) (acons (get 1) anil)) (callX (kwP c) (acons (get 1) anil)))) [some (.dat (nI w)), some (.dat (sD l)), some (.dat .none), some (.dat .none), none, none] = some (.ok .nx [some (.dat (nI w)), some (.dat (sD l)), some (.dat .none), some (.exc c.BadText "text" (sD l)), none, none])) : F_told c [nI w, sD l] = some (.dat (badD l)) := by
  have ne : c.BadText ≠ c.BadLine := fun e => by
    unfold Nd at nd
    rw [List.nodup_cons] at nd
    exact nd.1 (by rw [e]; exact List.mem_singleton.mpr rfl)
  refine runA_eq rfl ⟨[some (.dat (nI w)), some (.dat (sD l)), some (.dat .none), some (.exc c.BadText "text" (sD l)), none, some (.dat (.bool true))], ?_⟩
  show f_told c [some (.dat (nI w)), some (.dat (sD l)), none, none, none, none] = _
  unfold f_told s_told_0 s_told_1 s_told_2 s_told_3 s_told_4
  refine then_x (un_x (d := .tuple [.none, .none]) (tup_x (acons_x con_x (acons_x con_x anil_x)) rfl (Nat.le_of_ble_eq_true rfl)) rfl) (then_x h (then_x (ifS_f (tb_x (isNf_x (getE_x rfl) rfl) vwd_x) nxt_x) ?_))
  have g := getE_x (env := [some (.dat (nI w)), some (.dat (sD l)), some (.dat .none), some (.exc c.BadText "text" (sD l)), none, none]) (i := 3) rfl
  have t1 := tb_x (isiX_x (b := fun C => if C ∈ [c.BadText, c.BadLine] then some (decide (C = c.BadText)) else none) (y := true) g (by rw [if_pos (by simp), decide_eq_true rfl])) vwd_x
  have t2 := tb_x (isiX_x (b := inT [(c.BadText, true), (c.BadLine, true)]) (y := true) g inT_hd) vwd_x
  have t3 := notV_x (tb_x (isiX_x (b := fun C => if C ∈ [c.BadText, c.BadLine] then some (decide (C = c.BadLine)) else none) (y := false) g (by rw [if_pos (by simp), decide_eq_false ne])) vwd_x)
  refine then_x (set_x (i := 5) (pl_x (andV_t t1 (andV_t t2 t3)) rfl) (Nat.le_of_ble_eq_true rfl)) ?_
  exact ret_x (pl_x (ifE_t (tb_x (get_x rfl) vwd_x) (tup_x (acons_x con_x (acons_x (attrX_x (getE_x rfl) (decide_eq_true (by simp))) anil_x)) rfl (Nat.le_of_ble_eq_true rfl))) rfl)
theorem told_ok (nd : Nd c) {w : Nat} (hw : w ≤ 1) (hl : l.length ≤ 900) : F_told c [nI w, sD l] = some (.dat (resD w l)) := by
  have t := tb_x (op2_x (get_x (env := [some (.dat (nI w)), some (.dat (sD l)), some (.dat .none), some (.dat .none), none, none]) (i := 0) rfl) (con_x (d := .int 0)) vwd_x vwd_x (eqI_f _ _)) vwd_x
  have dw : decide ((w : Int) = 0) = decide (w = 0) := decide_eq_decide.mpr (by omega)
  rw [dw] at t
  unfold resD
  by_cases w0 : w = 0
  · rw [decide_eq_true w0] at t
    rw [if_pos w0]
    cases q : rOk l with
    | true =>
      have r := kwR_x (row_in_ok (c := c) hl)
      rw [q] at r
      exact told_end (d := .tuple ((vls l).map .int)) (fb := nxt) (keep_x (w := .dat (.tuple ((vls l).map .int))) (ifW_t t (callX_x (acons_x (get_x rfl) anil_x) rfl r)) (Nat.le_of_ble_eq_true rfl))
    | false =>
      have r := kwR_x (row_in_ok (c := c) hl)
      rw [q] at r
      exact told_bad nd (keep_ex (ifW_t t (callX_ex (acons_x (get_x rfl) anil_x) rfl r)) (by simp) rfl (Nat.le_of_ble_eq_true rfl) (Nat.le_of_ble_eq_true rfl) (by decide) rfl)
  · rw [decide_eq_false w0] at t
    rw [if_neg w0]
    cases q : pOk (wds l) with
    | true =>
      have r := kwP_x (pairs_in_x_ok (c := c) hl)
      rw [q] at r
      exact told_end (d := .list (((wds l).map prv).map prI)) (fb := nxt) (keep_x (w := .dat (.list (((wds l).map prv).map prI))) (ifW_f t (callX_x (acons_x (get_x rfl) anil_x) rfl r)) (Nat.le_of_ble_eq_true rfl))
    | false =>
      have r := kwP_x (pairs_in_x_ok (c := c) hl)
      rw [q] at r
      exact told_bad nd (keep_ex (ifW_f t (callX_ex (acons_x (get_x rfl) anil_x) rfl r)) (by simp) rfl (Nat.le_of_ble_eq_true rfl) (Nat.le_of_ble_eq_true rfl) (by decide) rfl)
theorem due_end {w : Nat} {d e : PyData} (he : e = if isNR (.dat d) = some true then badD l else d) (h : ifE (tb1 (op2 (eqA false) (get 0) (con (.int 0)))) (fz (callA F_crowd_in (acons (get 1) anil))) (fz (callA F_tour_in (acons (get 1) anil))) [some (.dat (nI w)), some (.dat (sD l)), none] = some (.ok (.dat d) [some (.dat (nI w)), some (.dat (sD l)), none])) (hd : isNR (.dat d) = some (decide (isNR (.dat d) = some true))) : F_due [nI w, sD l] = some (.dat e) := runA_eq rfl ⟨[some (.dat (nI w)), some (.dat (sD l)), some (.dat d)], by
  show f_due [some (.dat (nI w)), some (.dat (sD l)), none] = _
  unfold f_due s_due_0 s_due_1
  refine then_x (set_x (pl_x h rfl) (Nat.le_of_ble_eq_true rfl)) ?_
  have t := tb_x (isNf_x (get_x (env := [some (.dat (nI w)), some (.dat (sD l)), some (.dat d)]) (i := 2) rfl) hd) vwd_x
  by_cases q : isNR (.dat d) = some true
  · rw [decide_eq_true q] at t
    rw [he, if_pos q]
    exact ret_x (pl_x (ifE_t t (tup_x (acons_x con_x (acons_x (get_x rfl) anil_x)) rfl (Nat.le_of_ble_eq_true rfl))) rfl)
  · rw [decide_eq_false q] at t
    rw [he, if_neg q]
    exact ret_x (pl_x (ifE_f t (get_x rfl)) rfl)⟩
theorem due_ok {w : Nat} (hw : w ≤ 1) (hl : l.length ≤ 900) : F_due [nI w, sD l] = some (.dat (resD w l)) := by
  have t := tb_x (op2_x (get_x (env := [some (.dat (nI w)), some (.dat (sD l)), none]) (i := 0) rfl) (con_x (d := .int 0)) vwd_x vwd_x (eqI_f _ _)) vwd_x
  have dw : decide ((w : Int) = 0) = decide (w = 0) := decide_eq_decide.mpr (by omega)
  rw [dw] at t
  unfold resD
  by_cases w0 : w = 0
  · rw [decide_eq_true w0] at t
    rw [if_pos w0]
    have r := crowd_in_ok (l := l) hl
    cases q : rOk l with
    | true =>
      rw [q] at r
      exact due_end (d := .tuple ((vls l).map .int)) rfl (ifE_t t (fz_x (callA_x (acons_x (get_x rfl) anil_x) rfl r) rfl)) rfl
    | false =>
      rw [q] at r
      exact due_end (d := .none) rfl (ifE_t t (fz_x (callA_x (acons_x (get_x rfl) anil_x) rfl r) rfl)) rfl
  · rw [decide_eq_false w0] at t
    rw [if_neg w0]
    obtain ⟨v, r, o⟩ := tour_in_ok (l := l) hl
    cases q : pOk (wds l) with
    | true =>
      rw [q] at o
      exact due_end (d := .list (((wds l).map prv).map prI)) rfl (ifE_f t (fz_x (callA_x (acons_x (get_x rfl) anil_x) rfl r) o)) rfl
    | false =>
      rw [q] at o
      exact due_end (d := .none) rfl (ifE_f t (fz_x (callA_x (acons_x (get_x rfl) anil_x) rfl r) o)) rfl
end
/-! the same -/
def Lo (l : List Nat) : Prop := ∀ c ∈ l, c < 128
theorem shp_str {l : List Nat} (h : Lo l) : shp (sD l) = true := by
  have : PyData.strOk (SC l) = true := by
    show l.toArray.all _ = true
    rw [List.all_toArray, List.all_eq_true]
    intro c hc
    exact decide_eq_true (Nat.lt_trans (h c hc) (by decide))
  simp [shp, SeqAt.shaped, PyData.canLay0, PyData.depth, this]
theorem osS {n : Nat} {l : List Nat} (h : Lo l) : okS (n + 1) (sD l) := .inl ⟨rfl, shp_str h⟩
theorem osI {n : Nat} (i : Int) : okS (n + 1) (.int i) := .inl ⟨rfl, shp_int i⟩
theorem osL {n : Nat} {ds : List PyData} {d : PyData} (hd : d = .list ds ∨ d = .tuple ds) (hl : ds.length < 1000) (h : ∀ x ∈ ds, okS n x) : okS (n + 1) d := .inr ⟨ds, hd, hl, h⟩
theorem osP {n : Nat} (p : Int × Int) : okS (n + 2) (prI p) := osL (.inr rfl) (Nat.le_of_ble_eq_true rfl) fun x hx => by
  simp only [List.mem_cons, List.not_mem_nil, or_false] at hx
  rcases hx with rfl | rfl <;> exact osI _
theorem res_okS {w : Nat} {l : List Nat} (hl : l.length ≤ 900) (lo : Lo l) : okS 5 (resD w l) := by
  have wl := wds_len l
  have bd : okS 5 (badD l) := osL (.inr rfl) (Nat.le_of_ble_eq_true rfl) fun x hx => by
    simp only [List.mem_cons, List.not_mem_nil, or_false] at hx
    rcases hx with rfl | rfl
    · exact osS (l := [98, 97, 100]) (fun c hc => by simp only [List.mem_cons, List.not_mem_nil, or_false] at hc; omega)
    · exact osS lo
  unfold resD
  split
  · split
    · exact (okS.ints (n := 3) (vls l) (by unfold vls; rw [List.length_map]; omega)).1
    · exact bd
  · split
    · exact osL (.inl rfl) (by rw [List.length_map, List.length_map]; omega) fun x hx => by
        obtain ⟨p, _, rfl⟩ := List.mem_map.mp hx
        exact osP p
    · exact bd
end Ov
set_option Elab.async false
set_option linter.all false
set_option maxRecDepth 100000
set_option maxHeartbeats 4000000
set_option exponentiation.threshold 2000
namespace Ov
open PySem L2
/-! a text bent -/
section
variable {env e : En} {i : Nat} {l : List Nat} {k j : Int}
theorem slTo_x {fh : M (Option Int)} (h : env[i]? = some (some (.dat (sD l)))) (hk : fh env = some (.ok (some k) env)) (h0 : 0 ≤ k) (hl : l.length ≤ 1000000) : slTD (get i) poN fh env = some (.ok (.dat (sD (l.take k.toNat))) env) :=
  (slT_x (get_x h) poN_x hk vwd_x (by rw [SX.S_len]; exact hl)).trans (by rw [SX.slice_to h0])
theorem slFrom_x {fl : M (Option Int)} (h : env[i]? = some (some (.dat (sD l)))) (hk : fl env = some (.ok (some k) env)) (h0 : 0 ≤ k) (hl : l.length ≤ 1000000) : slTD (get i) fl poN env = some (.ok (.dat (sD (l.drop k.toNat))) env) :=
  (slT_x (get_x h) hk poN_x vwd_x (by rw [SX.S_len]; exact hl)).trans (by rw [SX.slice_from h0])
theorem slMid_x {fl fh : M (Option Int)} (h : env[i]? = some (some (.dat (sD l)))) (hk : fl env = some (.ok (some k) env)) (hj : fh env = some (.ok (some j) env)) (h0 : 0 ≤ k) (h1 : 0 ≤ j) (hl : l.length ≤ 1000000) :
    ∃ m, slTD (get i) fl fh env = some (.ok (.dat (sD m)) env) ∧ m.length ≤ (j - k).toNat ∧ ∀ c ∈ m, c ∈ l := by
  have e := slT_x (get_x h) hk hj vwd_x (by rw [SX.S_len]; exact hl)
  rw [← C8.cutS_slice] at e
  obtain ⟨a, rfl⟩ : ∃ a : Nat, k = a := ⟨k.toNat, by omega⟩
  obtain ⟨b, rfl⟩ : ∃ b : Nat, j = b := ⟨j.toNat, by omega⟩
  refine ⟨_, e, ?_, fun c hc => ?_⟩
  · rw [List.length_take, HT.sIx_nat, HT.sIx_nat]
    omega
  · exact List.mem_of_mem_drop (List.mem_of_mem_take hc)
end
theorem lo_app {a b : List Nat} (h : Lo a) (h2 : Lo b) : Lo (a ++ b) := fun c hc => by
  rcases List.mem_append.mp hc with hc | hc
  · exact h c hc
  · exact h2 c hc
theorem lo_sub {a b : List Nat} (h : Lo b) (s : ∀ c ∈ a, c ∈ b) : Lo a := fun c hc => h c (s c hc)
theorem lo_take {a : List Nat} {k : Nat} (h : Lo a) : Lo (a.take k) := lo_sub h fun _ => List.mem_of_mem_take
theorem lo_drop {a : List Nat} {k : Nat} (h : Lo a) : Lo (a.drop k) := lo_sub h fun _ => List.mem_of_mem_drop
def sgs : List (List Nat) := [[48], [49], [50], [51], [52], [53], [54], [55], [56], [57], [32], [45], [45], [43], [120], [10], [9], [32, 32], [32, 124, 32], [32], [48]]
theorem sgs_ok : ∀ s ∈ sgs, s.length ≤ 3 ∧ Lo s := by
  have : ∀ s ∈ sgs, s.length ≤ 3 ∧ ∀ c ∈ s, c < 128 := by decide
  exact this
theorem bent_text_ok {n : Int} {bs : List PyData} {l : List Nat} (hb : Bok n bs) (hn : n ≤ 10 ^ 8) (hl : l.length ≤ 1000) (lo : Lo l) : ∃ l' bs', F_bent_text bs [sD l] = some (.dat (sD l'), bs') ∧ l'.length ≤ l.length + 3 ∧ Lo l' ∧ Bok (n + 10) bs' := by
  obtain ⟨r, b1, e1, r0, r1, k1⟩ := take_any (k := 0) hb (by omega) (below := (l.length : Int) + 1) (by omega) (by omega)
  obtain ⟨v, b2, e2, v0, v1, k2⟩ := take_any (k := 0) k1 (by omega) (below := 6) (by decide) (by decide)
  have s0 : s_bent_text_0 [some (.own (dats bs)), some (.dat (sD l)), none, none, none, none] = some (.ok .nx [some (.own (dats b2)), some (.dat (sD l)), some (.dat (.int r)), some (.dat (.int v)), none, none]) := by
    unfold s_bent_text_0
    have c1 := callB_x (env := [some (.own (dats bs)), some (.dat (sD l)), none, none, none, none]) (i := 0) (FB := F_take 2) (b0 := bs) rfl (acons_x (op2_x (cb_x (acons_x (get_x (i := 1) rfl) anil_x) (vwC_x vwd_x vw0_x) (lenT_x (l := l) (by omega))) (con_x (d := .int 1)) vwd_x vwd_x (addI_x _ _)) anil_x) rfl rfl e1
    have c2 := callB_x (env := [some (.own (dats b1)), some (.dat (sD l)), none, none, none, none]) (i := 0) (FB := F_take 2) (b0 := b1) rfl (acons_x (con_x (d := .int 6)) anil_x) rfl rfl e2
    exact par_x (pl_x (fz_x c1 rfl) rfl) (pl_x (fz_x c2 rfl) rfl) (Nat.le_of_ble_eq_true rfl) (Nat.le_of_ble_eq_true rfl)
  have ml : l.length ≤ 1000000 := by omega
  have tk : (l.take r.toNat).length ≤ r.toNat := List.length_take_le _ _
  have dr : (l.drop r.toNat).length = l.length - r.toNat := List.length_drop
  have dr1 : (l.drop (r + 1).toNat).length = l.length - (r + 1).toNat := List.length_drop
  have dr2 : (l.drop (r + 2).toNat).length = l.length - (r + 2).toNat := List.length_drop
  -- the pieces, in any environment of this shape
  have hA : ∀ (w : En), w[1]? = some (some (.dat (sD l))) → w[2]? = some (some (.dat (.int r))) → slTD (get 1) poN (poS (get 2)) w = some (.ok (.dat (sD (l.take r.toNat))) w) := fun w h1 h2 => slTo_x h1 (poS_x (get_x h2)) r0 ml
  have hD : ∀ (w : En), w[1]? = some (some (.dat (sD l))) → w[2]? = some (some (.dat (.int r))) → slTD (get 1) (poS (get 2)) poN w = some (.ok (.dat (sD (l.drop r.toNat))) w) := fun w h1 h2 => slFrom_x h1 (poS_x (get_x h2)) r0 ml
  have hQ : ∀ (w : En) (q : Int), w[2]? = some (some (.dat (.int r))) → poS (op2 addD (get 2) (con (.int q))) w = some (.ok (some (r + q)) w) := fun w q h2 => poS_x (op2_x (get_x h2) con_x vwd_x vwd_x (addI_x _ _))
  have hP : ∀ (w : En) (q : Int), 0 ≤ q → w[1]? = some (some (.dat (sD l))) → w[2]? = some (some (.dat (.int r))) → slTD (get 1) (poS (op2 addD (get 2) (con (.int q)))) poN w = some (.ok (.dat (sD (l.drop (r + q).toNat))) w) := fun w q hq h1 h2 => slFrom_x h1 (hQ w q h2) (by omega) ml
  have tw : ∀ (q : Int), tb1 (op2 (eqA false) (get 3) (con (.int q))) [some (.own (dats b2)), some (.dat (sD l)), some (.dat (.int r)), some (.dat (.int v)), none, none] = some (.ok (decide (v = q)) [some (.own (dats b2)), some (.dat (sD l)), some (.dat (.int r)), some (.dat (.int v)), none, none]) := fun q => tb_x (op2_x (get_x rfl) con_x vwd_x vwd_x (eqI_f _ _)) vwd_x
  have t0 := tw 0
  have t1 := tw 1
  have t2 := tw 2
  have fin : ∀ (l' : List Nat) (ev : En), l'.length ≤ l.length + 3 → Lo l' → (thenS s_bent_text_1 (thenS s_bent_text_2 (thenS s_bent_text_3 (thenS s_bent_text_4 s_bent_text_5)))) [some (.own (dats b2)), some (.dat (sD l)), some (.dat (.int r)), some (.dat (.int v)), none, none] = some (.ok (.rt (.dat (sD l'))) (some (.own (dats b2)) :: ev)) → ∃ l' bs', F_bent_text bs [sD l] = some (.dat (sD l'), bs') ∧ l'.length ≤ l.length + 3 ∧ Lo l' ∧ Bok (n + 10) bs' := fun l' ev h1 h2 h => by
    refine ⟨l', b2, runB_eq rfl ⟨ev, ?_⟩, h1, h2, k2.mono (by omega)⟩
    show f_bent_text [some (.own (dats bs)), some (.dat (sD l)), none, none, none, none] = _
    unfold f_bent_text
    exact then_x s0 h
  by_cases w0 : v = 0
  · rw [decide_eq_true w0] at t0
    refine fin (l.take r.toNat ++ l.drop (r + 1).toNat) [some (.dat (sD l)), some (.dat (.int r)), some (.dat (.int v)), none, none] (by rw [List.length_append]; omega) (lo_app (lo_take lo) (lo_drop lo)) ?_
    unfold s_bent_text_1
    exact then_r (ifS_t t0 (ret_x (pl_x (op2_x (hA _ rfl rfl) (hP _ 1 (by decide) rfl rfl) vwd_x vwd_x (cat_x (by omega))) rfl)))
  rw [decide_eq_false w0] at t0
  by_cases w1 : v = 1
  · rw [decide_eq_true w1] at t1
    obtain ⟨m, hm, ml2, ms⟩ := slMid_x (env := [some (.own (dats b2)), some (.dat (sD l)), some (.dat (.int r)), some (.dat (.int v)), none, none]) (i := 1) rfl (poS_x (get_x (i := 2) rfl)) (hQ _ 1 rfl) r0 (by omega) ml
    refine fin ((l.take r.toNat ++ m) ++ l.drop r.toNat) [some (.dat (sD l)), some (.dat (.int r)), some (.dat (.int v)), none, none] (by rw [List.length_append, List.length_append]; omega) (lo_app (lo_app (lo_take lo) (lo_sub lo ms)) (lo_drop lo)) ?_
    unfold s_bent_text_1 s_bent_text_2
    exact then_x (ifS_f t0 nxt_x) (then_r (ifS_t t1 (ret_x (pl_x (op2_x (op2_x (hA _ rfl rfl) hm vwd_x vwd_x (cat_x (by omega))) (hD _ rfl rfl) vwd_x vwd_x (cat_x (by rw [List.length_append]; omega))) rfl))))
  rw [decide_eq_false w1] at t1
  by_cases w2 : v = 2
  · rw [decide_eq_true w2] at t2
    obtain ⟨m, hm, ml2, ms⟩ := slMid_x (env := [some (.own (dats b2)), some (.dat (sD l)), some (.dat (.int r)), some (.dat (.int v)), none, none]) (i := 1) rfl (poS_x (get_x (i := 2) rfl)) (hQ _ 1 rfl) r0 (by omega) ml
    obtain ⟨m2, hm2, ml3, ms2⟩ := slMid_x (env := [some (.own (dats b2)), some (.dat (sD l)), some (.dat (.int r)), some (.dat (.int v)), none, none]) (i := 1) rfl (hQ _ 1 rfl) (hQ _ 2 rfl) (by omega) (by omega) ml
    refine fin ((l.take r.toNat ++ (m2 ++ m)) ++ l.drop (r + 2).toNat) [some (.dat (sD l)), some (.dat (.int r)), some (.dat (.int v)), some (.dat (sD (m2 ++ m))), none] (by rw [List.length_append, List.length_append, List.length_append]; omega) (lo_app (lo_app (lo_take lo) (lo_app (lo_sub lo ms2) (lo_sub lo ms))) (lo_drop lo)) ?_
    unfold s_bent_text_1 s_bent_text_2 s_bent_text_3
    refine then_x (ifS_f t0 nxt_x) (then_x (ifS_f t1 nxt_x) (then_r (ifS_t t2 ?_)))
    refine then_x (set_x (i := 4) (pl_x (op2_x hm2 hm vwd_x vwd_x (cat_x (by omega))) rfl) (Nat.le_of_ble_eq_true rfl)) ?_
    exact ret_x (pl_x (op2_x (op2_x (hA _ rfl rfl) (get_x rfl) vwd_x vwd_x (cat_x (by rw [List.length_append]; omega))) (hP _ 2 (by decide) rfl rfl) vwd_x vwd_x (cat_x (by rw [List.length_append, List.length_append]; omega))) rfl)
  rw [decide_eq_false w2] at t2
  obtain ⟨d, b3, e3, hd, k3⟩ := of_ok k2 (by omega) (ds := sgs.map sD) (by decide) (by decide)
  obtain ⟨s, hs, rfl⟩ := List.mem_map.mp hd
  obtain ⟨sl, slo⟩ := sgs_ok s hs
  have s4 : s_bent_text_4 [some (.own (dats b2)), some (.dat (sD l)), some (.dat (.int r)), some (.dat (.int v)), none, none] = some (.ok .nx [some (.own (dats b3)), some (.dat (sD l)), some (.dat (.int r)), some (.dat (.int v)), none, some (.dat (sD s))]) := by
    unfold s_bent_text_4
    have l1 : op2 catD (cb listTD (acons (con (.str "0123456789 --+x")) anil)) (lstD (acons (con (.str "\n")) (acons (con (.str "	")) (acons (con (.str "  ")) (acons (con (.str " | ")) (acons (con (.str " ")) (acons (con (.str "0")) anil))))))) [some (.own (dats b2)), some (.dat (sD l)), some (.dat (.int r)), some (.dat (.int v)), none, none] = some (.ok (.dat (.list (sgs.map sD))) [some (.own (dats b2)), some (.dat (sD l)), some (.dat (.int r)), some (.dat (.int v)), none, none]) :=
      op2_x (cb_x (acons_x con_x anil_x) (vwC_x vwd_x vw0_x) (d := .list ((sgs.take 15).map sD)) rfl) (lst_x (ds := (sgs.drop 15).map sD) (acons_x con_x (acons_x con_x (acons_x con_x (acons_x con_x (acons_x con_x (acons_x con_x anil_x)))))) rfl (by decide)) vwd_x vwd_x rfl
    exact set_x (i := 5) (pl_x (fz_x (callB_x (i := 0) (b0 := b2) rfl (acons_x l1 anil_x) rfl rfl e3) rfl) rfl) (Nat.le_of_ble_eq_true rfl)
  have t3 : cb intD (acons (op2 (eqA false) (get 3) (con (.int 3))) anil) [some (.own (dats b3)), some (.dat (sD l)), some (.dat (.int r)), some (.dat (.int v)), none, some (.dat (sD s))] = some (.ok (.dat (.int (if v = 3 then 1 else 0))) [some (.own (dats b3)), some (.dat (sD l)), some (.dat (.int r)), some (.dat (.int v)), none, some (.dat (sD s))]) := by
    refine cb_x (acons_x (op2_x (get_x rfl) con_x vwd_x vwd_x (eqI_f _ _)) anil_x) (vwC_x vwd_x vw0_x) ?_
    by_cases q : v = 3
    · rw [decide_eq_true q, if_pos q]; rfl
    · rw [decide_eq_false q, if_neg q]; rfl
  have q0 : (0 : Int) ≤ (if v = 3 then 1 else 0) := by split <;> omega
  generalize (if v = 3 then (1 : Int) else 0) = q at t3 q0
  have dq : (l.drop (r + q).toNat).length = l.length - (r + q).toNat := List.length_drop
  have s5 : s_bent_text_5 [some (.own (dats b3)), some (.dat (sD l)), some (.dat (.int r)), some (.dat (.int v)), none, some (.dat (sD s))] = some (.ok (.rt (.dat (sD ((l.take r.toNat ++ s) ++ l.drop (r + q).toNat)))) [some (.own (dats b3)), some (.dat (sD l)), some (.dat (.int r)), some (.dat (.int v)), none, some (.dat (sD s))]) := by
    unfold s_bent_text_5
    exact ret_x (pl_x (op2_x (op2_x (hA _ rfl rfl) (get_x rfl) vwd_x vwd_x (cat_x (by omega))) (slFrom_x (k := r + q) rfl (poS_x (op2_x (get_x rfl) t3 vwd_x vwd_x (addI_x _ _))) (by omega) ml) vwd_x vwd_x (cat_x (by rw [List.length_append]; omega))) rfl)
  refine ⟨(l.take r.toNat ++ s) ++ l.drop (r + q).toNat, b3, runB_eq rfl ⟨[some (.dat (sD l)), some (.dat (.int r)), some (.dat (.int v)), none, some (.dat (sD s))], ?_⟩, by rw [List.length_append, List.length_append]; omega, lo_app (lo_app (lo_take lo) slo) (lo_drop lo), k3.mono (by omega)⟩
  show f_bent_text [some (.own (dats bs)), some (.dat (sD l)), none, none, none, none] = _
  unfold f_bent_text
  refine then_x s0 ?_
  unfold s_bent_text_1 s_bent_text_2 s_bent_text_3
  exact then_x (ifS_f t0 nxt_x) (then_x (ifS_f t1 nxt_x) (then_x (ifS_f t2 nxt_x) (then_x s4 s5)))
end Ov
set_option Elab.async false
set_option linter.all false
set_option maxRecDepth 100000
set_option maxHeartbeats 4000000
set_option exponentiation.threshold 2000
namespace Ov
open PySem L2
theorem lists_atom {n : Nat} (i : Int) : F_lists (n + 1) [.int i] = some (.dat (.int i)) := runA_eq rfl ⟨[some (.dat (.int i)), none], by
  show f_lists _ [some (.dat (.int i)), none] = _
  unfold f_lists
  exact ret_x (pl_x (ifE_f (tb_x (isi2_x (get_x rfl) vwd_x (v_kL _) (v_kT _)) vwd_x) (get_x rfl)) rfl)⟩
theorem lists_seq {n : Nat} {ds : List PyData} {g : PyData → PyData} {d : PyData} (hd : d = .list ds ∨ d = .tuple ds) (h : ∀ x ∈ ds, F_lists n [x] = some (.dat (g x))) (hl : ds.length < 1000000) : F_lists (n + 1) [d] = some (.dat (.list (ds.map g))) := runA_eq rfl ⟨[some (.dat d), none], by
  show f_lists _ [some (.dat d), none] = _
  unfold f_lists
  have cm := compM_x (env := [some (.dat d), none]) (p := gN 1) (ft := yesT) (fe := fz (callA (F_lists n) (acons (get 1) anil))) (vs := [1]) (z := fun x => x) g ds hl fun x hx => ⟨[some (.dat d), some (.dat x)], rfl, rfl, fz_x (callA_x (acons_x (get_x rfl) anil_x) rfl (h x hx)) rfl, rfl, rfl⟩
  rw [List.map_id'] at cm
  have sq : seqD d = some ds := by rcases hd with rfl | rfl <;> rfl
  have ik : (isL d || isT d) = true := by rcases hd with rfl | rfl <;> rfl
  have k := isi2_x (T := "list") (U := "tuple") (get_x (env := [some (.dat d), none]) (i := 0) rfl) vwd_x (v_kL d) (v_kT d)
  rw [ik] at k
  exact ret_x (pl_x (ifE_t (tb_x k vwd_x) (fz_x (lc_eq (seq_x (get_x rfl) sq) rfl rfl cm) (v_ofWo _))) rfl)⟩
theorem lists_prs {ps : List (Int × Int)} (hl : ps.length < 1000000) : F_lists 4 [.list (ps.map prI)] = some (.dat (.list (ps.map (prZ true)))) := by
  have e := lists_seq (n := 3) (ds := ps.map prI) (g := fun x => match x with | .tuple es => .list es | x => x) (.inl rfl) (fun x hx => by
    obtain ⟨p, hp, rfl⟩ := List.mem_map.mp hx
    have := lists_seq (n := 2) (d := prI p) (ds := [.int p.1, .int p.2]) (g := fun x => x) (.inr rfl) (fun y hy => by
      simp only [List.mem_cons, List.not_mem_nil, or_false] at hy
      rcases hy with rfl | rfl
      · exact lists_atom _
      · exact lists_atom _) (by show 2 < 1000000; decide)
    exact this) (by rw [List.length_map]; exact hl)
  refine e.trans ?_
  rw [List.map_map]
  rfl
theorem row_in_plain {l : List Nat} (hl : l.length ≤ 900) (ho : rOk l = true) : F_row_in [sD l] = some (.dat (.tuple ((vls l).map .int))) := by
  have wl := wds_len l
  have wb : ∀ p ∈ wds l, p.length ≤ 100000 := fun p hp => by have := wds_le hp; omega
  have s0 : s_row_in_0 [some (.dat (sD l)), none, none, none] = some (.ok .nx [some (.dat (sD l)), some (.dat (.list ((wds l).map sD))), none, none]) := by
    unfold s_row_in_0
    exact set_x (pl_x (fz_x (callA_x (acons_x (get_x rfl) anil_x) rfl (words_in_ok (by omega))) rfl) rfl) (Nat.le_of_ble_eq_true rfl)
  have t1 : tb1 (cb allD (acons (fz (lcW (seqI (get 1)) (gN 2) yesT (fz (callA F_is_written_number (acons (get 2) anil))) [2])) anil)) [some (.dat (sD l)), some (.dat (.list ((wds l).map sD))), none, none] = some (.ok ((wds l).all wrt) [some (.dat (sD l)), some (.dat (.list ((wds l).map sD))), none, none]) :=
    wall_x (ps := wds l) (g := wrt) (d := .list ((wds l).map sD)) rfl rfl (by omega) (fun p hp => wn_ok (wb p hp)) rfl rfl fun p => ⟨[some (.dat (sD l)), some (.dat (.list ((wds l).map sD))), some (.dat (sD p)), none], rfl, rfl, rfl, rfl⟩
  have c1 : (wds l).all wrt = true := by
    unfold rOk at ho
    rw [Bool.and_eq_true, Bool.and_eq_true] at ho
    exact ho.1.1
  have s1 : s_row_in_1 [some (.dat (sD l)), some (.dat (.list ((wds l).map sD))), none, none] = some (.ok .nx [some (.dat (sD l)), some (.dat (.list ((wds l).map sD))), none, none]) := by
    unfold s_row_in_1
    rw [c1] at t1
    exact ifS_f (notT_x t1) nxt_x
  have vm : (wds l).map (fun p => PyData.int ((dv p : Nat) : Int)) = (vls l).map .int := by unfold vls; rw [List.map_map]; rfl
  have s2 : s_row_in_2 [some (.dat (sD l)), some (.dat (.list ((wds l).map sD))), none, none] = some (.ok .nx [some (.dat (sD l)), some (.dat (.list ((wds l).map sD))), none, some (.dat (.tuple ((vls l).map .int)))]) := by
    unfold s_row_in_2
    have cm := compM_x (env := [some (.dat (sD l)), some (.dat (.list ((wds l).map sD))), none, none]) (p := gN 2) (ft := yesT) (fe := cb intTD (acons (get 2) anil)) (vs := [2]) (z := sD) (fun p => PyData.int ((dv p : Nat) : Int)) (wds l) (by omega) fun p hp => ⟨[some (.dat (sD l)), some (.dat (.list ((wds l).map sD))), some (.dat (sD p)), none], rfl, rfl, by
      obtain ⟨a, b, d, _⟩ := wrt_d (List.all_eq_true.mp c1 p hp)
      exact cb_x (acons_x (get_x rfl) anil_x) (vwC_x vwd_x vw0_x) (int_wrt (dgt_of d) a b), rfl, rfl⟩
    rw [vm] at cm
    exact set_x (e := [some (.dat (sD l)), some (.dat (.list ((wds l).map sD))), none, none]) (w := .dat (.tuple ((vls l).map .int))) (pl_x (cb_x (acons_x (fz_x (lc_eq (seq_x (get_x rfl) rfl) rfl rfl cm) (v_ofWo _)) anil_x) (vwC_x vwd_x vw0_x) (d := .tuple ((vls l).map .int)) rfl) rfl) (Nat.le_of_ble_eq_true rfl)
  have t3 : tb1 (fz (callA F_is_row (acons (get 3) anil))) [some (.dat (sD l)), some (.dat (.list ((wds l).map sD))), none, some (.dat (.tuple ((vls l).map .int)))] = some (.ok (decide (∀ x ∈ vls l, 1 ≤ x) && decide (vls l).Nodup) [some (.dat (sD l)), some (.dat (.list ((wds l).map sD))), none, some (.dat (.tuple ((vls l).map .int)))]) :=
    tb_x (fz_x (callA_x (acons_x (get_x rfl) anil_x) rfl (is_row_ok _ fun ds e => by
      injection e with e
      rw [← e, List.length_map]
      unfold vls
      rw [List.length_map]
      omega)) rfl) (by rw [crowd_vls]; exact vwd_x)
  have e : rOk l = (decide (∀ x ∈ vls l, 1 ≤ x) && decide (vls l).Nodup) := by unfold rOk; rw [c1, Bool.true_and]
  rw [← e] at t3
  rw [ho] at t3
  refine runA_eq rfl ⟨[some (.dat (sD l)), some (.dat (.list ((wds l).map sD))), none, some (.dat (.tuple ((vls l).map .int)))], ?_⟩
  show f_row_in [some (.dat (sD l)), none, none, none] = _
  unfold f_row_in s_row_in_3 s_row_in_4
  exact then_x s0 (then_x s1 (then_x s2 (then_x (ifS_f (notT_x t3) nxt_x) (ret_x (pl_x (get_x rfl) rfl)))))
theorem lo_num (n : Nat) : Lo (TL.numL n) := fun c hc => by have := TL.numL_digits n c hc; omega
theorem lo_nm (x : Int) : Lo (nm x) := lo_num _
theorem lo_join : ∀ {ps : List (List Nat)}, (∀ p ∈ ps, Lo p) → Lo (TL.joinL [32] ps)
  | [], _ => fun c hc => by cases hc
  | [p], h => h p (List.mem_singleton.mpr rfl)
  | p :: q :: r, h => lo_app (h p (List.mem_cons_self ..)) (lo_app (fun c hc => by rw [List.mem_singleton] at hc; omega) (lo_join (ps := q :: r) fun x hx => h x (List.mem_cons_of_mem _ hx)))
theorem lo_txt {ps : List (List Nat)} (h : ∀ p ∈ ps, Lo p) : Lo (txt ps) := by
  unfold txt
  split
  · intro c hc; rw [List.mem_singleton] at hc; omega
  · exact lo_join h
theorem lo_pt (p : Int × Int) : Lo (pt p) := lo_app (lo_app (lo_nm _) fun c hc => by rw [List.mem_singleton] at hc; omega) (lo_nm _)
theorem txt_len {ps : List (List Nat)} {m k : Nat} (h : ∀ p ∈ ps, p.length ≤ m) (hk : ps.length ≤ k) (h1 : 1 ≤ k * (m + 1)) : (txt ps).length ≤ k * (m + 1) := by
  unfold txt
  split
  · exact h1
  · exact Nat.le_trans (joinL_len h) (Nat.mul_le_mul_right _ hk)
theorem dsp_pt (p : Int × Int) : dsp (pt p) = [nm p.1, nm p.2] := by
  have e : pt p = TL.joinL [45] [nm p.1, nm p.2] := by
    unfold pt
    rw [List.append_assoc]
    rfl
  unfold dsp
  rw [e]
  exact SX.spl_join (by simp) fun q hq => by
    simp only [List.mem_cons, List.not_mem_nil, or_false] at hq
    rcases hq with rfl | rfl <;> exact nm_free (by omega)
def Pms (ms : List Int) : Prop := ms.Nodup ∧ (∀ x ∈ ms, 1 ≤ x ∧ x ≤ 10 ^ 9) ∧ ms.length ≤ 12
theorem row_back {ms : List Int} (h : Pms ms) : rOk (txt (ms.map nm)) = true ∧ vls (txt (ms.map nm)) = ms := by
  have w : wds (txt (ms.map nm)) = ms.map nm := wds_txt fun p hp => by
    obtain ⟨x, _, rfl⟩ := List.mem_map.mp hp
    exact nm_ok x
  have v : vls (txt (ms.map nm)) = ms := by
    unfold vls
    rw [w, List.map_map]
    conv => rhs; rw [← List.map_id ms]
    exact List.map_congr_left fun x hx => nm_val (by have := h.2.1 x hx; omega)
  refine ⟨?_, v⟩
  unfold rOk
  rw [v, w]
  rw [Bool.and_eq_true, Bool.and_eq_true, decide_eq_true_eq, decide_eq_true_eq]
  refine ⟨⟨List.all_eq_true.mpr fun p hp => ?_, fun x hx => (h.2.1 x hx).1⟩, h.1⟩
  obtain ⟨x, hx, rfl⟩ := List.mem_map.mp hp
  have := h.2.1 x hx
  exact nm_wrt (by omega) (by omega)
theorem tour_back {ps : List (Int × Int)} (hb : Bp ps) : pOk (wds (txt (ps.map pt))) = true ∧ (wds (txt (ps.map pt))).map prv = ps := by
  have w : wds (txt (ps.map pt)) = ps.map pt := wds_txt fun p hp => by
    obtain ⟨x, _, rfl⟩ := List.mem_map.mp hp
    exact pt_ok x
  rw [w]
  constructor
  · unfold pOk
    refine List.all_eq_true.mpr fun q hq => ?_
    obtain ⟨p, hp, rfl⟩ := List.mem_map.mp hq
    have k := hb p hp
    rw [dsp_pt]
    unfold wpr
    rw [List.all_cons, List.all_cons, nm_wrt k.1 k.2.1, nm_wrt k.2.2.1 k.2.2.2]
    rfl
  · rw [List.map_map]
    conv => rhs; rw [← List.map_id ps]
    refine List.map_congr_left fun p hp => ?_
    have k := hb p hp
    show prv (pt p) = p
    unfold prv
    rw [dsp_pt]
    exact Prod.ext (nm_val k.1) (nm_val k.2.2.1)
theorem sum_len {ms : List Int} (h : Pms ms) : (txt (ms.map nm)).length ≤ 132 := txt_len (m := 10) (k := 12) (fun p hp => by
  obtain ⟨x, hx, rfl⟩ := List.mem_map.mp hp
  have := h.2.1 x hx
  exact nm_len (by omega) (by omega)) (by rw [List.length_map]; exact h.2.2) (by decide)
theorem tour_len {ps : List (Int × Int)} (hb : Bp ps) (hl : ps.length ≤ 9) : (txt (ps.map pt)).length ≤ 198 := txt_len (m := 21) (k := 9) (fun p hp => by
  obtain ⟨x, hx, rfl⟩ := List.mem_map.mp hp
  exact pt_len (hb x hx)) (by rw [List.length_map]; exact hl) (by decide)
theorem lo_sum (ms : List Int) : Lo (txt (ms.map nm)) := lo_txt fun p hp => by
  obtain ⟨x, _, rfl⟩ := List.mem_map.mp hp
  exact lo_nm x
theorem lo_tour (ps : List (Int × Int)) : Lo (txt (ps.map pt)) := lo_txt fun p hp => by
  obtain ⟨x, _, rfl⟩ := List.mem_map.mp hp
  exact lo_pt x
def fx0 : List (List Nat) := [[], [32], [45], [45, 45], [48], [49], [48, 49], [49, 32, 49], [49, 32, 48], [50, 32, 49, 32], [32, 50, 32, 49], [50, 32, 32, 49], [49, 32, 45], [45, 32, 49], [45, 49], [43, 49], [49, 44, 50]]
def fx1 : List (List Nat) := [[48, 45, 48], [48, 45, 50], [50, 45, 48], [48, 45, 50, 32], [48, 45, 50, 32, 32, 48, 45, 51], [48, 48, 45, 50], [48, 45, 48, 50], [48, 45], [45, 48], [48, 45, 50, 45, 52], [48, 45, 45, 50]]
def fx2 : List (List Nat) := [[48, 32, 45, 32, 50], [48, 45, 50, 32, 45]]
def fx3 : List (List Nat) := [[57, 57, 57, 57, 57, 57, 57, 57, 57, 57], [49, 48, 48, 48, 48, 48, 48, 48, 48, 48, 48], [57, 57, 57, 57, 57, 57, 57, 57, 57, 57, 45, 49], [49, 45, 49, 48, 48, 48, 48, 48, 48, 48, 48, 48, 48], [49, 10, 50], [48, 45, 50, 10], [49, 95, 48]]
def fx4 : List (List Nat) := [[49, 95, 48, 45, 50], [48, 45, 49, 95, 48], [49, 10], [45, 10], [51, 32, 49, 32, 50, 10], [10, 49]]
def fxs : List (List Nat) := fx0 ++ fx1 ++ fx2 ++ fx3 ++ fx4
/-- a text that is short and plain -/
def Gd (l : List Nat) : Prop := l.length ≤ 900 ∧ Lo l
theorem fxs_ok : ∀ t ∈ fxs, Gd t := by
  have : ∀ t ∈ fxs, t.length ≤ 900 ∧ ∀ c ∈ t, c < 128 := by decide
  exact this
section
variable {c : Ad} {ms : List Int} {ps : List (Int × Int)}
theorem tour_fill : ∀ (j : Nat) {k : Nat} {n : Int} {bs : List PyData} {acc : List (Int × Int)} {w3 : Option Wv}, Bok n bs → n + 4 * j ≤ 10 ^ 8 → Bp acc → acc.length + j ≤ 1000 →
    ∃ (b1 : List PyData) (u3 : Option Wv) (r : List (Int × Int)), forM (gN 3) (b_right_1 c) ((List.range' k j).map nI) [some (.own (dats bs)), some (.dat (.tuple (ms.map PyData.int))), some (.own (dats (acc.map prI))), w3, none, none, none, none, none, none, none, none, none, none] = some (.ok .nx [some (.own (dats b1)), some (.dat (.tuple (ms.map PyData.int))), some (.own (dats (r.map prI))), u3, none, none, none, none, none, none, none, none, none, none]) ∧ Bp r ∧ r.length = acc.length + j ∧ Bok (n + 4 * j) b1
  | 0, k, n, bs, acc, w3, hb, _, hp, _ => ⟨bs, w3, acc, for_nil, hp, rfl, hb.mono (by omega)⟩
  | j + 1, k, n, bs, acc, w3, hb, hn, hp, hl => by
    obtain ⟨x, b1, e1, x0, x1, k1⟩ := take_any (k := 0) hb (by omega) (below := 20) (by decide) (by decide)
    obtain ⟨y, b2, e2, y0, y1, k2⟩ := take_any (k := 0) k1 (by omega) (below := 10 ^ 9) (by decide) (by decide)
    have c1 := callB_x (env := [some (.own (dats bs)), some (.dat (.tuple (ms.map PyData.int))), some (.own (dats (acc.map prI))), some (.dat (nI k)), none, none, none, none, none, none, none, none, none, none]) (i := 0) (FB := F_take 2) (b0 := bs) rfl (acons_x (con_x (d := .int 20)) anil_x) rfl rfl e1
    have c2 := callB_x (env := [some (.own (dats b1)), some (.dat (.tuple (ms.map PyData.int))), some (.own (dats (acc.map prI))), some (.dat (nI k)), none, none, none, none, none, none, none, none, none, none]) (i := 0) (FB := F_take 2) (b0 := b1) rfl (acons_x (op2_x (con_x (d := .int 10)) (con_x (d := .int 9)) vwd_x vwd_x (v_pow 10 9 (by decide +kernel))) anil_x) rfl rfl e2
    have st : b_right_1 c [some (.own (dats bs)), some (.dat (.tuple (ms.map PyData.int))), some (.own (dats (acc.map prI))), some (.dat (nI k)), none, none, none, none, none, none, none, none, none, none] = some (.ok .nx [some (.own (dats b2)), some (.dat (.tuple (ms.map PyData.int))), some (.own (dats ((acc ++ [(x, y)]).map prI))), some (.dat (nI k)), none, none, none, none, none, none, none, none, none, none]) := by
      unfold b_right_1
      have mp : (acc ++ [(x, y)]).map prI = acc.map prI ++ [prI (x, y)] := by rw [List.map_append]; rfl
      rw [mp]
      exact expr_x (mth_x (i := 2) (fo := appD) (b0 := acc.map prI) (bs := acc.map prI) rfl (acons_x (tup_x (acons_x (fz_x c1 rfl) (acons_x (fz_x c2 rfl) anil_x)) rfl (Nat.le_of_ble_eq_true rfl)) anil_x) rfl rfl (app_x (by rw [List.length_map]; omega)))
    obtain ⟨b3, u3, r, e3, rp, rl, k3⟩ := tour_fill j (k := k + 1) (n := n + 4) (bs := b2) (acc := acc ++ [(x, y)]) (w3 := some (.dat (nI k))) (k2.mono (by omega)) (by omega) (fun p hp' => by
      rcases List.mem_append.mp hp' with h | h
      · exact hp p h
      · rw [List.mem_singleton] at h
        subst h
        exact ⟨x0, by omega, y0, by omega⟩) (by rw [List.length_append, List.length_singleton]; omega)
    refine ⟨b3, u3, r, ?_, rp, by rw [rl, List.length_append, List.length_singleton]; omega, k3.mono (by omega)⟩
    rw [List.range'_succ, List.map_cons]
    exact (for_go rfl st).trans e3
/-- what was written of the two -/
def sdOf (ms : List Int) (ps : List (Int × Int)) (q : Nat) : List Nat := if q = 0 then txt (ms.map nm) else txt (ps.map pt)
theorem sd_ix {q : Nat} (hq : q ≤ 1) : ixD (.list [sD (txt (ms.map nm)), sD (txt (ps.map pt))]) (nI q) = some (sD (sdOf ms ps q)) := by
  have h : [txt (ms.map nm), txt (ps.map pt)][q]? = some (sdOf ms ps q) := by
    match q, hq with
    | 0, _ => rfl
    | 1, _ => rfl
  exact ixL_map (z := sD) h
theorem sd_ok (hm : Pms ms) (hb : Bp ps) (hl : ps.length ≤ 9) {q : Nat} : (sdOf ms ps q).length ≤ 198 ∧ Lo (sdOf ms ps q) := by
  unfold sdOf
  split
  · exact ⟨by have := sum_len hm; omega, lo_sum ms⟩
  · exact ⟨tour_len hb hl, lo_tour ps⟩
theorem bend_all (hm : Pms ms) (hb2 : Bp ps) (hl2 : ps.length ≤ 9) {mo : List Nat} {q : Nat} (hq : q ≤ 1) {w8 w12 : Option Wv} : ∀ (j : Nat) {k : Nat} {n : Int} {bs : List PyData} {ts : List (List Nat)} {w3 w11 : Option Wv}, Bok n bs → n + 30 * j ≤ 10 ^ 7 → (∀ t ∈ ts, Gd t) → ts.length + j ≤ 500 →
    ∃ (b1 : List PyData) (u3 u11 : Option Wv) (r : List (List Nat)), forM (gN 3) (thenS (setS 11 (pl (fz (callB 0 F_bent_text (acons (op2 ixD (get 4) (get 9)) anil)))))
    (exprS (mthE 10 appD (acons (ifE (tb1 (op2 (eqA false) (fz (callB 0 (F_take 2) (acons (con (.int 3)) anil))) (con (.int 0)))) (fz (callB 0 F_bent_text (acons (get 11) anil))) (get 11)) anil)))) ((List.range' k j).map nI) [some (.own (dats bs)), some (.dat (.tuple (ms.map PyData.int))), some (.dat (.list (ps.map prI))), w3, some (.dat (.list [sD (txt (ms.map nm)), sD (txt (ps.map pt))])), some (.dat (.list [sD (txt (ms.map nm)), sD (txt (ps.map pt)), sD (txt (ms.map nm)), sD (txt (ps.map pt))])), some (.dat (.list (fxs.map sD))), some (.dat (sD mo)), w8, some (.dat (nI q)), some (.own (dats (ts.map sD))), w11, w12, none] = some (.ok .nx [some (.own (dats b1)), some (.dat (.tuple (ms.map PyData.int))), some (.dat (.list (ps.map prI))), u3, some (.dat (.list [sD (txt (ms.map nm)), sD (txt (ps.map pt))])), some (.dat (.list [sD (txt (ms.map nm)), sD (txt (ps.map pt)), sD (txt (ms.map nm)), sD (txt (ps.map pt))])), some (.dat (.list (fxs.map sD))), some (.dat (sD mo)), w8, some (.dat (nI q)), some (.own (dats (r.map sD))), u11, w12, none]) ∧ (∀ t ∈ r, Gd t) ∧ r.length = ts.length + j ∧ Bok (n + 30 * j) b1
  | 0, k, n, bs, ts, w3, w11, hb, _, hp, _ => ⟨bs, w3, w11, ts, for_nil, hp, rfl, hb.mono (by omega)⟩
  | j + 1, k, n, bs, ts, w3, w11, hb, hn, hp, hl => by
    obtain ⟨sl, so⟩ := sd_ok hm hb2 hl2 (q := q)
    obtain ⟨x, b1, e1, x0, x1, k1⟩ := bent_text_ok hb (by omega) (l := sdOf ms ps q) (by omega) so
    obtain ⟨y, b2, e2, y0, y1, k2⟩ := take_any (k := 0) k1 (by omega) (below := 3) (by decide) (by decide)
    have c1 := callB_x (env := [some (.own (dats bs)), some (.dat (.tuple (ms.map PyData.int))), some (.dat (.list (ps.map prI))), some (.dat (nI k)), some (.dat (.list [sD (txt (ms.map nm)), sD (txt (ps.map pt))])), some (.dat (.list [sD (txt (ms.map nm)), sD (txt (ps.map pt)), sD (txt (ms.map nm)), sD (txt (ps.map pt))])), some (.dat (.list (fxs.map sD))), some (.dat (sD mo)), w8, some (.dat (nI q)), some (.own (dats (ts.map sD))), w11, w12, none]) (i := 0) (FB := F_bent_text) (b0 := bs) rfl (acons_x (op2_x (get_x (i := 4) rfl) (get_x (i := 9) rfl) vwd_x vwd_x (sd_ix hq)) anil_x) rfl rfl e1
    have s1 := set_x (i := 11) (pl_x (fz_x c1 rfl) rfl) (Nat.le_of_ble_eq_true rfl)
    have c2 := callB_x (env := [some (.own (dats b1)), some (.dat (.tuple (ms.map PyData.int))), some (.dat (.list (ps.map prI))), some (.dat (nI k)), some (.dat (.list [sD (txt (ms.map nm)), sD (txt (ps.map pt))])), some (.dat (.list [sD (txt (ms.map nm)), sD (txt (ps.map pt)), sD (txt (ms.map nm)), sD (txt (ps.map pt))])), some (.dat (.list (fxs.map sD))), some (.dat (sD mo)), w8, some (.dat (nI q)), some (.own (dats (ts.map sD))), some (.dat (sD x)), w12, none]) (i := 0) (FB := F_take 2) (b0 := b1) rfl (acons_x (con_x (d := .int 3)) anil_x) rfl rfl e2
    have t2 := tb_x (op2_x (fz_x c2 rfl) (con_x (d := .int 0)) vwd_x vwd_x (eqI_f _ _)) vwd_x
    have fin : ∀ (z : List Nat) (b3 : List PyData), Gd z → Bok (n + 30) b3 → ifE (tb1 (op2 (eqA false) (fz (callB 0 (F_take 2) (acons (con (.int 3)) anil))) (con (.int 0)))) (fz (callB 0 F_bent_text (acons (get 11) anil))) (get 11) [some (.own (dats b1)), some (.dat (.tuple (ms.map PyData.int))), some (.dat (.list (ps.map prI))), some (.dat (nI k)), some (.dat (.list [sD (txt (ms.map nm)), sD (txt (ps.map pt))])), some (.dat (.list [sD (txt (ms.map nm)), sD (txt (ps.map pt)), sD (txt (ms.map nm)), sD (txt (ps.map pt))])), some (.dat (.list (fxs.map sD))), some (.dat (sD mo)), w8, some (.dat (nI q)), some (.own (dats (ts.map sD))), some (.dat (sD x)), w12, none] = some (.ok (.dat (sD z)) [some (.own (dats b3)), some (.dat (.tuple (ms.map PyData.int))), some (.dat (.list (ps.map prI))), some (.dat (nI k)), some (.dat (.list [sD (txt (ms.map nm)), sD (txt (ps.map pt))])), some (.dat (.list [sD (txt (ms.map nm)), sD (txt (ps.map pt)), sD (txt (ms.map nm)), sD (txt (ps.map pt))])), some (.dat (.list (fxs.map sD))), some (.dat (sD mo)), w8, some (.dat (nI q)), some (.own (dats (ts.map sD))), some (.dat (sD x)), w12, none]) →
      ∃ (b1 : List PyData) (u3 u11 : Option Wv) (r : List (List Nat)), forM (gN 3) (thenS (setS 11 (pl (fz (callB 0 F_bent_text (acons (op2 ixD (get 4) (get 9)) anil)))))
    (exprS (mthE 10 appD (acons (ifE (tb1 (op2 (eqA false) (fz (callB 0 (F_take 2) (acons (con (.int 3)) anil))) (con (.int 0)))) (fz (callB 0 F_bent_text (acons (get 11) anil))) (get 11)) anil)))) ((List.range' k (j + 1)).map nI) [some (.own (dats bs)), some (.dat (.tuple (ms.map PyData.int))), some (.dat (.list (ps.map prI))), w3, some (.dat (.list [sD (txt (ms.map nm)), sD (txt (ps.map pt))])), some (.dat (.list [sD (txt (ms.map nm)), sD (txt (ps.map pt)), sD (txt (ms.map nm)), sD (txt (ps.map pt))])), some (.dat (.list (fxs.map sD))), some (.dat (sD mo)), w8, some (.dat (nI q)), some (.own (dats (ts.map sD))), w11, w12, none] = some (.ok .nx [some (.own (dats b1)), some (.dat (.tuple (ms.map PyData.int))), some (.dat (.list (ps.map prI))), u3, some (.dat (.list [sD (txt (ms.map nm)), sD (txt (ps.map pt))])), some (.dat (.list [sD (txt (ms.map nm)), sD (txt (ps.map pt)), sD (txt (ms.map nm)), sD (txt (ps.map pt))])), some (.dat (.list (fxs.map sD))), some (.dat (sD mo)), w8, some (.dat (nI q)), some (.own (dats (r.map sD))), u11, w12, none]) ∧ (∀ t ∈ r, Gd t) ∧ r.length = ts.length + (j + 1) ∧ Bok (n + 30 * (j + 1 : Nat)) b1 := by
      intro z b3 gz k3 h
      obtain ⟨b4, u3, u11, r, e4, rp, rl, k4⟩ := bend_all hm hb2 hl2 hq j (k := k + 1) (n := n + 30) (bs := b3) (ts := ts ++ [z]) (w3 := some (.dat (nI k))) (w11 := some (.dat (sD x))) (w8 := w8) (w12 := w12) k3 (by omega) (fun t ht => by
        rcases List.mem_append.mp ht with h | h
        · exact hp t h
        · rw [List.mem_singleton] at h
          subst h
          exact gz) (by rw [List.length_append, List.length_singleton]; omega)
      refine ⟨b4, u3, u11, r, ?_, rp, by rw [rl, List.length_append, List.length_singleton]; omega, k4.mono (by omega)⟩
      rw [List.range'_succ, List.map_cons]
      have mp : (ts ++ [z]).map sD = ts.map sD ++ [sD z] := by rw [List.map_append]; rfl
      rw [mp] at e4
      refine (for_go rfl (then_x s1 (expr_x (mth_x (i := 10) (fo := appD) (b0 := ts.map sD) (bs := ts.map sD) rfl (acons_x h anil_x) rfl rfl (app_x (by rw [List.length_map]; omega)))))).trans e4
    by_cases y00 : y = 0
    · rw [decide_eq_true y00] at t2
      obtain ⟨x2, b3, e3, x20, x21, k3⟩ := bent_text_ok k2 (by omega) (l := x) (by omega) x1
      have c3 := callB_x (env := [some (.own (dats b2)), some (.dat (.tuple (ms.map PyData.int))), some (.dat (.list (ps.map prI))), some (.dat (nI k)), some (.dat (.list [sD (txt (ms.map nm)), sD (txt (ps.map pt))])), some (.dat (.list [sD (txt (ms.map nm)), sD (txt (ps.map pt)), sD (txt (ms.map nm)), sD (txt (ps.map pt))])), some (.dat (.list (fxs.map sD))), some (.dat (sD mo)), w8, some (.dat (nI q)), some (.own (dats (ts.map sD))), some (.dat (sD x)), w12, none]) (i := 0) (FB := F_bent_text) (b0 := b2) rfl (acons_x (get_x (i := 11) rfl) anil_x) rfl rfl e3
      exact fin x2 b3 ⟨by omega, x21⟩ (k3.mono (by omega)) (ifE_t t2 (fz_x c3 rfl))
    · rw [decide_eq_false y00] at t2
      exact fin x b2 ⟨by omega, x1⟩ (k2.mono (by omega)) (ifE_f t2 (get_x rfl))
theorem check_all (nd : Nd c) {mo : List Nat} {q : Nat} (hq : q ≤ 1) {w8 w11 : Option Wv} {w3 : Option Wv} {bs tl : List PyData} : ∀ (ts : List (List Nat)) {w12 : Option Wv}, (∀ t ∈ ts, Gd t) →
    ∃ u12, forM (gN 12) (ifS (notT (tb1 (fz (callA (F_same 5) (acons (fz (callA (F_told c) (acons (get 9) (acons (get 12) anil)))) (acons (fz (callA F_due (acons (get 9) (acons (get 12) anil)))) anil)))))) (retS (pl (con (.bool false)))) nxt) (ts.map sD) [some (.own (dats bs)), some (.dat (.tuple (ms.map PyData.int))), some (.dat (.list (ps.map prI))), w3, some (.dat (.list [sD (txt (ms.map nm)), sD (txt (ps.map pt))])), some (.dat (.list [sD (txt (ms.map nm)), sD (txt (ps.map pt)), sD (txt (ms.map nm)), sD (txt (ps.map pt))])), some (.dat (.list (fxs.map sD))), some (.dat (sD mo)), w8, some (.dat (nI q)), some (.own (dats tl)), w11, w12, none] = some (.ok .nx [some (.own (dats bs)), some (.dat (.tuple (ms.map PyData.int))), some (.dat (.list (ps.map prI))), w3, some (.dat (.list [sD (txt (ms.map nm)), sD (txt (ps.map pt))])), some (.dat (.list [sD (txt (ms.map nm)), sD (txt (ps.map pt)), sD (txt (ms.map nm)), sD (txt (ps.map pt))])), some (.dat (.list (fxs.map sD))), some (.dat (sD mo)), w8, some (.dat (nI q)), some (.own (dats tl)), w11, u12, none])
  | [], w12, _ => ⟨w12, for_nil⟩
  | t :: ts, w12, h => by
    obtain ⟨gl, go⟩ := h t (List.mem_cons_self ..)
    obtain ⟨u12, e⟩ := check_all nd (mo := mo) hq (w8 := w8) (w11 := w11) (w3 := w3) (bs := bs) (tl := tl) ts (w12 := some (.dat (sD t))) fun x hx => h x (List.mem_cons_of_mem _ hx)
    refine ⟨u12, ?_⟩
    rw [List.map_cons]
    refine (for_go (e := [some (.own (dats bs)), some (.dat (.tuple (ms.map PyData.int))), some (.dat (.list (ps.map prI))), w3, some (.dat (.list [sD (txt (ms.map nm)), sD (txt (ps.map pt))])), some (.dat (.list [sD (txt (ms.map nm)), sD (txt (ps.map pt)), sD (txt (ms.map nm)), sD (txt (ps.map pt))])), some (.dat (.list (fxs.map sD))), some (.dat (sD mo)), w8, some (.dat (nI q)), some (.own (dats tl)), w11, some (.dat (sD t)), none]) (e2 := [some (.own (dats bs)), some (.dat (.tuple (ms.map PyData.int))), some (.dat (.list (ps.map prI))), w3, some (.dat (.list [sD (txt (ms.map nm)), sD (txt (ps.map pt))])), some (.dat (.list [sD (txt (ms.map nm)), sD (txt (ps.map pt)), sD (txt (ms.map nm)), sD (txt (ps.map pt))])), some (.dat (.list (fxs.map sD))), some (.dat (sD mo)), w8, some (.dat (nI q)), some (.own (dats tl)), w11, some (.dat (sD t)), none]) rfl (ifS_f (notT_x (tb_x (fz_x (callA_x (acons_x (fz_x (callA_x (acons_x (get_x (i := 9) rfl) (acons_x (get_x (i := 12) rfl) anil_x)) rfl (told_ok nd hq gl)) rfl) (acons_x (fz_x (callA_x (acons_x (get_x (i := 9) rfl) (acons_x (get_x (i := 12) rfl) anil_x)) rfl (due_ok hq gl)) rfl) anil_x)) rfl (same_ok (res_okS (w := q) gl go))) rfl) vwd_x)) nxt_x)).trans e
theorem turn_ok (nd : Nd c) (hm : Pms ms) (hb2 : Bp ps) (hl2 : ps.length ≤ 9) {mo : List Nat} (hmo : mo.length ≤ 400 ∧ Lo mo) {q : Nat} (hq : q ≤ 1) {w8 w10 w11 w12 w3 : Option Wv} {n : Int} {bs : List PyData} (hb : Bok n bs) (hn : n + 420 ≤ 10 ^ 7) :
    ∃ b1 u3 u10 u11 u12, b_right_11 c [some (.own (dats bs)), some (.dat (.tuple (ms.map PyData.int))), some (.dat (.list (ps.map prI))), w3, some (.dat (.list [sD (txt (ms.map nm)), sD (txt (ps.map pt))])), some (.dat (.list [sD (txt (ms.map nm)), sD (txt (ps.map pt)), sD (txt (ms.map nm)), sD (txt (ps.map pt))])), some (.dat (.list (fxs.map sD))), some (.dat (sD mo)), w8, some (.dat (nI q)), w10, w11, w12, none] = some (.ok .nx [some (.own (dats b1)), some (.dat (.tuple (ms.map PyData.int))), some (.dat (.list (ps.map prI))), u3, some (.dat (.list [sD (txt (ms.map nm)), sD (txt (ps.map pt))])), some (.dat (.list [sD (txt (ms.map nm)), sD (txt (ps.map pt)), sD (txt (ms.map nm)), sD (txt (ps.map pt))])), some (.dat (.list (fxs.map sD))), some (.dat (sD mo)), w8, some (.dat (nI q)), u10, u11, u12, none]) ∧ Bok (n + 420) b1 := by
  have s1 : setS 10 (catW (get 6) (lstD (acons (get 7) (acons (op2 catSD (get 7) (con (.str " 1"))) (acons (op2 catSD (get 7) (con (.str " 9999999999"))) anil))))) [some (.own (dats bs)), some (.dat (.tuple (ms.map PyData.int))), some (.dat (.list (ps.map prI))), w3, some (.dat (.list [sD (txt (ms.map nm)), sD (txt (ps.map pt))])), some (.dat (.list [sD (txt (ms.map nm)), sD (txt (ps.map pt)), sD (txt (ms.map nm)), sD (txt (ps.map pt))])), some (.dat (.list (fxs.map sD))), some (.dat (sD mo)), w8, some (.dat (nI q)), w10, w11, w12, none] = some (.ok .nx [some (.own (dats bs)), some (.dat (.tuple (ms.map PyData.int))), some (.dat (.list (ps.map prI))), w3, some (.dat (.list [sD (txt (ms.map nm)), sD (txt (ps.map pt))])), some (.dat (.list [sD (txt (ms.map nm)), sD (txt (ps.map pt)), sD (txt (ms.map nm)), sD (txt (ps.map pt))])), some (.dat (.list (fxs.map sD))), some (.dat (sD mo)), w8, some (.dat (nI q)), some (.own (dats (fxs.map sD ++ [mo, mo ++ [32, 49], mo ++ [32, 57, 57, 57, 57, 57, 57, 57, 57, 57, 57]].map sD))), w11, w12, none]) :=
    set_x (catW_x (get_x rfl) (lst_x (ds := [mo, mo ++ [32, 49], mo ++ [32, 57, 57, 57, 57, 57, 57, 57, 57, 57, 57]].map sD) (acons_x (get_x rfl) (acons_x (op2_x (get_x rfl) con_x vwd_x vwd_x (cat_x (b := [32, 49]) (by have := hmo.1; show mo.length + 2 ≤ _; omega))) (acons_x (op2_x (get_x rfl) con_x vwd_x vwd_x (cat_x (b := [32, 57, 57, 57, 57, 57, 57, 57, 57, 57, 57]) (by have := hmo.1; show mo.length + 11 ≤ _; omega))) anil_x))) rfl (Nat.le_of_ble_eq_true rfl)) vwd_x vwd_x (Nat.le_of_ble_eq_true rfl)) (Nat.le_of_ble_eq_true rfl)
  have g0 : ∀ t ∈ fxs ++ [mo, mo ++ [32, 49], mo ++ [32, 57, 57, 57, 57, 57, 57, 57, 57, 57, 57]], Gd t := fun t ht => by
    rcases List.mem_append.mp ht with h | h
    · exact fxs_ok t h
    · have s1 : ∀ z : List Nat, (∀ c ∈ z, c < 128) → Lo (mo ++ z) := fun z hz => lo_app hmo.2 hz
      have l := hmo.1
      simp only [List.mem_cons, List.not_mem_nil, or_false] at h
      rcases h with rfl | rfl | rfl
      · exact ⟨by omega, hmo.2⟩
      · exact ⟨by rw [List.length_append]; show mo.length + 2 ≤ 900; omega, s1 _ (by decide)⟩
      · exact ⟨by rw [List.length_append]; show mo.length + 11 ≤ 900; omega, s1 _ (by decide)⟩
  have hl : (fxs ++ [mo, mo ++ [32, 49], mo ++ [32, 57, 57, 57, 57, 57, 57, 57, 57, 57, 57]]).length = 46 := rfl
  generalize hts : fxs ++ [mo, mo ++ [32, 49], mo ++ [32, 57, 57, 57, 57, 57, 57, 57, 57, 57, 57]] = ts at g0 hl
  have s1' : setS 10 (catW (get 6) (lstD (acons (get 7) (acons (op2 catSD (get 7) (con (.str " 1"))) (acons (op2 catSD (get 7) (con (.str " 9999999999"))) anil))))) [some (.own (dats bs)), some (.dat (.tuple (ms.map PyData.int))), some (.dat (.list (ps.map prI))), w3, some (.dat (.list [sD (txt (ms.map nm)), sD (txt (ps.map pt))])), some (.dat (.list [sD (txt (ms.map nm)), sD (txt (ps.map pt)), sD (txt (ms.map nm)), sD (txt (ps.map pt))])), some (.dat (.list (fxs.map sD))), some (.dat (sD mo)), w8, some (.dat (nI q)), w10, w11, w12, none] = some (.ok .nx [some (.own (dats bs)), some (.dat (.tuple (ms.map PyData.int))), some (.dat (.list (ps.map prI))), w3, some (.dat (.list [sD (txt (ms.map nm)), sD (txt (ps.map pt))])), some (.dat (.list [sD (txt (ms.map nm)), sD (txt (ps.map pt)), sD (txt (ms.map nm)), sD (txt (ps.map pt))])), some (.dat (.list (fxs.map sD))), some (.dat (sD mo)), w8, some (.dat (nI q)), some (.own (dats (ts.map sD))), w11, w12, none]) := by
    rw [← hts, List.map_append]
    exact s1
  obtain ⟨b1, u3, u11, r, e2, rp, rl, k1⟩ := bend_all hm hb2 hl2 (mo := mo) hq (w8 := w8) (w12 := w12) 14 (k := 0) (ts := ts) (w3 := w3) (w11 := w11) hb (by omega) g0 (by omega)
  have s2 := for_x (fi := argI rngD (acons (con (.int 14)) anil)) (argI_x (acons_x con_x anil_x) rfl (rng1N (n := 14) (by decide))) e2
  have sd := sd_ok hm hb2 hl2 (q := q)
  have gr : ∀ t ∈ r ++ [sdOf ms ps q], Gd t := fun t ht => by
    rcases List.mem_append.mp ht with h | h
    · exact rp t h
    · rw [List.mem_singleton] at h
      subst h
      exact ⟨by omega, sd.2⟩
  obtain ⟨u12, e3⟩ := check_all (c := c) nd (ms := ms) (ps := ps) (mo := mo) hq (w8 := w8) (w11 := u11) (w3 := u3) (bs := b1) (tl := r.map sD) (r ++ [sdOf ms ps q]) (w12 := w12) gr
  have ct : catD (.list (r.map sD)) (.list [sD (sdOf ms ps q)]) = some (.list ((r ++ [sdOf ms ps q]).map sD)) := by
    rw [List.map_append]
    show (if (r.map sD).length + 1 ≤ 1000000 then some () else none).map _ = _
    rw [if_pos (by rw [List.length_map]; omega)]
    rfl
  have s3 := for_x (fi := seqI (op2 catD (get 10) (lstD (acons (op2 ixD (get 4) (get 9)) anil)))) (p := gN 12) (seq_x (op2_x (getO_x (i := 10) rfl) (lst_x (acons_x (op2_x (get_x (i := 4) rfl) (get_x (i := 9) rfl) vwd_x vwd_x (sd_ix hq)) anil_x) rfl (Nat.le_of_ble_eq_true rfl)) (vws_x rfl) vwd_x ct) rfl) e3
  refine ⟨b1, u3, some (.own (dats (r.map sD))), u11, u12, ?_, k1.mono (by omega)⟩
  unfold b_right_11
  exact then_x s1' (then_x s2 s3)
theorem turns_ok (nd : Nd c) (hm : Pms ms) (hb2 : Bp ps) (hl2 : ps.length ≤ 9) {mo : List Nat} (hmo : mo.length ≤ 400 ∧ Lo mo) {w8 : Option Wv} : ∀ (j : Nat) {k : Nat} {n : Int} {bs : List PyData} {w3 w9 w10 w11 w12 : Option Wv}, k + j ≤ 2 → Bok n bs → n + 420 * j ≤ 10 ^ 7 →
    ∃ b1 u3 u9 u10 u11 u12, forM (gN 9) (b_right_11 c) ((List.range' k j).map nI) [some (.own (dats bs)), some (.dat (.tuple (ms.map PyData.int))), some (.dat (.list (ps.map prI))), w3, some (.dat (.list [sD (txt (ms.map nm)), sD (txt (ps.map pt))])), some (.dat (.list [sD (txt (ms.map nm)), sD (txt (ps.map pt)), sD (txt (ms.map nm)), sD (txt (ps.map pt))])), some (.dat (.list (fxs.map sD))), some (.dat (sD mo)), w8, w9, w10, w11, w12, none] = some (.ok .nx [some (.own (dats b1)), some (.dat (.tuple (ms.map PyData.int))), some (.dat (.list (ps.map prI))), u3, some (.dat (.list [sD (txt (ms.map nm)), sD (txt (ps.map pt))])), some (.dat (.list [sD (txt (ms.map nm)), sD (txt (ps.map pt)), sD (txt (ms.map nm)), sD (txt (ps.map pt))])), some (.dat (.list (fxs.map sD))), some (.dat (sD mo)), w8, u9, u10, u11, u12, none]) ∧ Bok (n + 420 * j) b1
  | 0, k, n, bs, w3, w9, w10, w11, w12, _, hb, _ => ⟨bs, w3, w9, w10, w11, w12, for_nil, hb.mono (by omega)⟩
  | j + 1, k, n, bs, w3, w9, w10, w11, w12, hk, hb, hn => by
    obtain ⟨b1, u3, u10, u11, u12, e1, k1⟩ := turn_ok nd hm hb2 hl2 hmo (q := k) (by omega) (w8 := w8) (w10 := w10) (w11 := w11) (w12 := w12) (w3 := w3) hb (by omega)
    obtain ⟨b2, v3, v9, v10, v11, v12, e2, k2⟩ := turns_ok nd hm hb2 hl2 hmo (w8 := w8) j (k := k + 1) (n := n + 420) (w3 := u3) (w9 := some (.dat (nI k))) (w10 := u10) (w11 := u11) (w12 := u12) (by omega) k1 (by omega)
    refine ⟨b2, v3, v9, v10, v11, v12, ?_, k2.mono (by omega)⟩
    rw [List.range'_succ, List.map_cons]
    exact (for_go rfl e1).trans e2
theorem right_ok (nd : Nd c) {n : Int} {bs0 : List PyData} (hb : Bok n bs0) (hn : n ≤ 10 ^ 6) : ∃ bs', F_right c bs0 [] = some (.dat (.bool true), bs') ∧ Bok (n + 2000) bs' := by
  obtain ⟨ms, b1, e1, m1, m2, m3, k1⟩ := crowd_ok hb (by omega) (c := 12) (by decide) (by decide)
  have hm : Pms ms := ⟨m1, m2, m3⟩
  obtain ⟨y, b2, e2, y0, y1, k2⟩ := take_any (k := 0) k1 (by omega) (below := 10) (by decide) (by decide)
  have s0 : s_right_0 c [some (.own (dats bs0)), none, none, none, none, none, none, none, none, none, none, none, none, none] = some (.ok .nx [some (.own (dats b1)), some (.dat (.tuple (ms.map PyData.int))), some (.own (dats [])), none, none, none, none, none, none, none, none, none, none, none]) := by
    unfold s_right_0
    have c1 := callB_x (env := [some (.own (dats bs0)), none, none, none, none, none, none, none, none, none, none, none, none, none]) (i := 0) (FB := F_crowd) (b0 := bs0) rfl (acons_x (con_x (d := .int 12)) anil_x) rfl rfl e1
    exact par_x (pl_x (fz_x c1 rfl) rfl) (lstW_x anil_x rfl (Nat.le_of_ble_eq_true rfl)) (Nat.le_of_ble_eq_true rfl) (Nat.le_of_ble_eq_true rfl)
  obtain ⟨t, rfl⟩ : ∃ t : Nat, y = t := ⟨y.toNat, by omega⟩
  obtain ⟨b3, u3, ps, e3, hp, lp, k3⟩ := tour_fill (c := c) (ms := ms) t (k := 0) (acc := []) (w3 := none) k2 (by omega) (fun p hp => by cases hp) (by rw [List.length_nil]; omega)
  rw [List.length_nil, Nat.zero_add] at lp
  have hl9 : ps.length ≤ 9 := by omega
  have s1 : s_right_1 c [some (.own (dats b1)), some (.dat (.tuple (ms.map PyData.int))), some (.own (dats [])), none, none, none, none, none, none, none, none, none, none, none] = some (.ok .nx [some (.own (dats b3)), some (.dat (.tuple (ms.map PyData.int))), some (.own (dats (ps.map prI))), u3, none, none, none, none, none, none, none, none, none, none]) := by
    unfold s_right_1
    have c1 := callB_x (env := [some (.own (dats b1)), some (.dat (.tuple (ms.map PyData.int))), some (.own (dats [])), none, none, none, none, none, none, none, none, none, none, none]) (i := 0) (FB := F_take 2) (b0 := b1) rfl (acons_x (con_x (d := .int 10)) anil_x) rfl rfl e2
    exact for_x (argI_x (acons_x (fz_x c1 rfl) anil_x) rfl (rng1N (n := t) (by omega))) e3
  have m4 : ∀ x ∈ ms, 0 ≤ x ∧ x ≤ 10 ^ 9 := fun x hx => by have := m2 x hx; omega
  have m5 : ms.length ≤ 100 := by omega
  have s2 : s_right_2 c [some (.own (dats b3)), some (.dat (.tuple (ms.map PyData.int))), some (.own (dats (ps.map prI))), u3, none, none, none, none, none, none, none, none, none, none] = some (.ok .nx [some (.own (dats b3)), some (.dat (.tuple (ms.map PyData.int))), some (.dat (.list (ps.map prI))), u3, some (.dat (.list [sD (txt (ms.map nm)), sD (txt (ps.map pt))])), none, none, none, none, none, none, none, none, none]) := by
    unfold s_right_2
    exact frz_x (i := 2) rfl (set_x (pl_x (lst_x (acons_x (fz_x (callA_x (acons_x (get_x (i := 1) rfl) anil_x) rfl (sum_text_ok rfl m4 m5)) rfl) (acons_x (fz_x (callA_x (acons_x (get_x (i := 2) rfl) anil_x) rfl (tour_text_ok hp (by omega))) rfl) anil_x)) rfl (Nat.le_of_ble_eq_true rfl)) rfl) (Nat.le_of_ble_eq_true rfl))
  have lst : ∀ d, listD [.tuple (ms.map PyData.int)] = some d → d = .list (ms.map PyData.int) := fun d h => by cases h; rfl
  have s3 : s_right_3 c [some (.own (dats b3)), some (.dat (.tuple (ms.map PyData.int))), some (.dat (.list (ps.map prI))), u3, some (.dat (.list [sD (txt (ms.map nm)), sD (txt (ps.map pt))])), none, none, none, none, none, none, none, none, none] = some (.ok .nx [some (.own (dats b3)), some (.dat (.tuple (ms.map PyData.int))), some (.dat (.list (ps.map prI))), u3, some (.dat (.list [sD (txt (ms.map nm)), sD (txt (ps.map pt))])), some (.dat (.list [sD (txt (ms.map nm)), sD (txt (ps.map pt)), sD (txt (ms.map nm)), sD (txt (ps.map pt))])), none, none, none, none, none, none, none, none]) := by
    unfold s_right_3
    have r1 := row_text_ok (d := .tuple (ms.map PyData.int)) rfl m4 m5
    have r2 := row_text_ok (d := .list (ms.map PyData.int)) rfl m4 m5
    have r3 := pairs_text_ok (b := false) (d := .list (ps.map prI)) (ps := ps) rfl hp (by omega)
    have r4 := pairs_text_ok (b := true) (d := .tuple (ps.map (prZ true))) (ps := ps) rfl hp (by omega)
    have kw : ∀ (F : List PyData → Option Wv) (d : PyData) (w : Option Wv), F [d] = w → (fun ds : List PyData => if ds.length = 1 then F ([0].map fun i => ds.getD i .none) else none) [d] = w := fun F d w h => h
    exact set_x (pl_x (lst_x (acons_x (fz_x (callA_x (F := F_row_text) (acons_x (get_x (i := 1) rfl) anil_x) rfl r1) rfl) (acons_x (fz_x (callA_x (F := F_pairs_text) (acons_x (get_x (i := 2) rfl) anil_x) rfl r3) rfl) (acons_x (fz_x (callA_x (acons_x (cb_x (acons_x (get_x (i := 1) rfl) anil_x) (vwC_x vwd_x vw0_x) (d := .list (ms.map PyData.int)) rfl) anil_x) rfl (kw F_row_text _ _ r2)) rfl) (acons_x (fz_x (callA_x (acons_x (cb_x (acons_x (fz_x (callA_x (F := F_lists 4) (acons_x (get_x (i := 2) rfl) anil_x) rfl (lists_prs (by omega))) rfl) anil_x) (vwC_x vwd_x vw0_x) (d := .tuple (ps.map (prZ true))) rfl) anil_x) rfl (kw F_pairs_text _ _ r4)) rfl) anil_x)))) rfl (Nat.le_of_ble_eq_true rfl)) rfl) (Nat.le_of_ble_eq_true rfl)
  have os : okS 5 (.list [sD (txt (ms.map nm)), sD (txt (ps.map pt)), sD (txt (ms.map nm)), sD (txt (ps.map pt))]) := osL (.inl rfl) (Nat.le_of_ble_eq_true rfl) fun x hx => by
    simp only [List.mem_cons, List.not_mem_nil, or_false] at hx
    rcases hx with rfl | rfl | rfl | rfl
    · exact osS (lo_sum ms)
    · exact osS (lo_tour ps)
    · exact osS (lo_sum ms)
    · exact osS (lo_tour ps)
  have s4 : s_right_4 c [some (.own (dats b3)), some (.dat (.tuple (ms.map PyData.int))), some (.dat (.list (ps.map prI))), u3, some (.dat (.list [sD (txt (ms.map nm)), sD (txt (ps.map pt))])), some (.dat (.list [sD (txt (ms.map nm)), sD (txt (ps.map pt)), sD (txt (ms.map nm)), sD (txt (ps.map pt))])), none, none, none, none, none, none, none, none] = some (.ok .nx [some (.own (dats b3)), some (.dat (.tuple (ms.map PyData.int))), some (.dat (.list (ps.map prI))), u3, some (.dat (.list [sD (txt (ms.map nm)), sD (txt (ps.map pt))])), some (.dat (.list [sD (txt (ms.map nm)), sD (txt (ps.map pt)), sD (txt (ms.map nm)), sD (txt (ps.map pt))])), none, none, none, none, none, none, none, none]) := by
    unfold s_right_4
    exact ifS_f (notT_x (tb_x (fz_x (callA_x (acons_x (get_x (i := 5) rfl) (acons_x (op2_x (get_x (i := 4) rfl) (get_x (i := 4) rfl) vwd_x vwd_x (c := .list [sD (txt (ms.map nm)), sD (txt (ps.map pt)), sD (txt (ms.map nm)), sD (txt (ps.map pt))]) rfl) anil_x)) rfl (same_ok os)) rfl) vwd_x)) nxt_x
  have s5 : s_right_5 c [some (.own (dats b3)), some (.dat (.tuple (ms.map PyData.int))), some (.dat (.list (ps.map prI))), u3, some (.dat (.list [sD (txt (ms.map nm)), sD (txt (ps.map pt))])), some (.dat (.list [sD (txt (ms.map nm)), sD (txt (ps.map pt)), sD (txt (ms.map nm)), sD (txt (ps.map pt))])), none, none, none, none, none, none, none, none] = some (.ok .nx [some (.own (dats b3)), some (.dat (.tuple (ms.map PyData.int))), some (.dat (.list (ps.map prI))), u3, some (.dat (.list [sD (txt (ms.map nm)), sD (txt (ps.map pt))])), some (.dat (.list [sD (txt (ms.map nm)), sD (txt (ps.map pt)), sD (txt (ms.map nm)), sD (txt (ps.map pt))])), some (.dat (.list ((fx0).map sD))), none, none, none, none, none, none, none]) := by
    unfold s_right_5
    exact set_x (pl_x (lst_x (ds := fx0.map sD) (acons_x con_x (acons_x con_x (acons_x con_x (acons_x con_x (acons_x con_x (acons_x con_x (acons_x con_x (acons_x con_x (acons_x con_x (acons_x con_x (acons_x con_x (acons_x con_x (acons_x con_x (acons_x con_x (acons_x con_x (acons_x con_x (acons_x con_x anil_x))))))))))))))))) rfl (Nat.le_of_ble_eq_true rfl)) rfl) (Nat.le_of_ble_eq_true rfl)
  have s6 : s_right_6 c [some (.own (dats b3)), some (.dat (.tuple (ms.map PyData.int))), some (.dat (.list (ps.map prI))), u3, some (.dat (.list [sD (txt (ms.map nm)), sD (txt (ps.map pt))])), some (.dat (.list [sD (txt (ms.map nm)), sD (txt (ps.map pt)), sD (txt (ms.map nm)), sD (txt (ps.map pt))])), some (.dat (.list ((fx0).map sD))), none, none, none, none, none, none, none] = some (.ok .nx [some (.own (dats b3)), some (.dat (.tuple (ms.map PyData.int))), some (.dat (.list (ps.map prI))), u3, some (.dat (.list [sD (txt (ms.map nm)), sD (txt (ps.map pt))])), some (.dat (.list [sD (txt (ms.map nm)), sD (txt (ps.map pt)), sD (txt (ms.map nm)), sD (txt (ps.map pt))])), some (.dat (.list ((fx0 ++ fx1).map sD))), none, none, none, none, none, none, none]) := by
    unfold s_right_6
    exact set_x (pl_x (op2_x (get_x (i := 6) rfl) (lst_x (ds := fx1.map sD) (acons_x con_x (acons_x con_x (acons_x con_x (acons_x con_x (acons_x con_x (acons_x con_x (acons_x con_x (acons_x con_x (acons_x con_x (acons_x con_x (acons_x con_x anil_x))))))))))) rfl (Nat.le_of_ble_eq_true rfl)) vwd_x vwd_x rfl) rfl) (Nat.le_of_ble_eq_true rfl)
  have s7 : s_right_7 c [some (.own (dats b3)), some (.dat (.tuple (ms.map PyData.int))), some (.dat (.list (ps.map prI))), u3, some (.dat (.list [sD (txt (ms.map nm)), sD (txt (ps.map pt))])), some (.dat (.list [sD (txt (ms.map nm)), sD (txt (ps.map pt)), sD (txt (ms.map nm)), sD (txt (ps.map pt))])), some (.dat (.list ((fx0 ++ fx1).map sD))), none, none, none, none, none, none, none] = some (.ok .nx [some (.own (dats b3)), some (.dat (.tuple (ms.map PyData.int))), some (.dat (.list (ps.map prI))), u3, some (.dat (.list [sD (txt (ms.map nm)), sD (txt (ps.map pt))])), some (.dat (.list [sD (txt (ms.map nm)), sD (txt (ps.map pt)), sD (txt (ms.map nm)), sD (txt (ps.map pt))])), some (.dat (.list ((fx0 ++ fx1 ++ fx2).map sD))), none, none, none, none, none, none, none]) := by
    unfold s_right_7
    exact set_x (pl_x (op2_x (get_x (i := 6) rfl) (lst_x (ds := fx2.map sD) (acons_x con_x (acons_x con_x anil_x)) rfl (Nat.le_of_ble_eq_true rfl)) vwd_x vwd_x rfl) rfl) (Nat.le_of_ble_eq_true rfl)
  have s8 : s_right_8 c [some (.own (dats b3)), some (.dat (.tuple (ms.map PyData.int))), some (.dat (.list (ps.map prI))), u3, some (.dat (.list [sD (txt (ms.map nm)), sD (txt (ps.map pt))])), some (.dat (.list [sD (txt (ms.map nm)), sD (txt (ps.map pt)), sD (txt (ms.map nm)), sD (txt (ps.map pt))])), some (.dat (.list ((fx0 ++ fx1 ++ fx2).map sD))), none, none, none, none, none, none, none] = some (.ok .nx [some (.own (dats b3)), some (.dat (.tuple (ms.map PyData.int))), some (.dat (.list (ps.map prI))), u3, some (.dat (.list [sD (txt (ms.map nm)), sD (txt (ps.map pt))])), some (.dat (.list [sD (txt (ms.map nm)), sD (txt (ps.map pt)), sD (txt (ms.map nm)), sD (txt (ps.map pt))])), some (.dat (.list ((fx0 ++ fx1 ++ fx2 ++ fx3).map sD))), none, none, none, none, none, none, none]) := by
    unfold s_right_8
    exact set_x (pl_x (op2_x (get_x (i := 6) rfl) (lst_x (ds := fx3.map sD) (acons_x con_x (acons_x con_x (acons_x con_x (acons_x con_x (acons_x con_x (acons_x con_x (acons_x con_x anil_x))))))) rfl (Nat.le_of_ble_eq_true rfl)) vwd_x vwd_x rfl) rfl) (Nat.le_of_ble_eq_true rfl)
  have s9 : s_right_9 c [some (.own (dats b3)), some (.dat (.tuple (ms.map PyData.int))), some (.dat (.list (ps.map prI))), u3, some (.dat (.list [sD (txt (ms.map nm)), sD (txt (ps.map pt))])), some (.dat (.list [sD (txt (ms.map nm)), sD (txt (ps.map pt)), sD (txt (ms.map nm)), sD (txt (ps.map pt))])), some (.dat (.list ((fx0 ++ fx1 ++ fx2 ++ fx3).map sD))), none, none, none, none, none, none, none] = some (.ok .nx [some (.own (dats b3)), some (.dat (.tuple (ms.map PyData.int))), some (.dat (.list (ps.map prI))), u3, some (.dat (.list [sD (txt (ms.map nm)), sD (txt (ps.map pt))])), some (.dat (.list [sD (txt (ms.map nm)), sD (txt (ps.map pt)), sD (txt (ms.map nm)), sD (txt (ps.map pt))])), some (.dat (.list ((fx0 ++ fx1 ++ fx2 ++ fx3 ++ fx4).map sD))), none, none, none, none, none, none, none]) := by
    unfold s_right_9
    exact set_x (pl_x (op2_x (get_x (i := 6) rfl) (lst_x (ds := fx4.map sD) (acons_x con_x (acons_x con_x (acons_x con_x (acons_x con_x (acons_x con_x (acons_x con_x anil_x)))))) rfl (Nat.le_of_ble_eq_true rfl)) vwd_x vwd_x rfl) rfl) (Nat.le_of_ble_eq_true rfl)
  obtain ⟨z, b4, e4, z0, z1, k4⟩ := take_any (k := 0) k3 (by omega) (below := 9) (by decide) (by decide)
  obtain ⟨v, rfl⟩ : ∃ v : Nat, z = v := ⟨z.toNat, by omega⟩
  have hmo : (TL.joinL [32] ((List.range' 1 (17 + v)).map TL.numL)).length ≤ 400 ∧ Lo (TL.joinL [32] ((List.range' 1 (17 + v)).map TL.numL)) := by
    refine ⟨Nat.le_trans (joinL_len (m := 2) fun p hp => ?_) (by rw [List.length_map, List.length_range']; omega), lo_join fun p hp => ?_⟩
    · obtain ⟨x, hx, rfl⟩ := List.mem_map.mp hp
      have := List.mem_range'.mp hx
      exact TL.numL_len (by decide) (by omega)
    · obtain ⟨x, hx, rfl⟩ := List.mem_map.mp hp
      exact lo_num x
  have s10 : s_right_10 c [some (.own (dats b3)), some (.dat (.tuple (ms.map PyData.int))), some (.dat (.list (ps.map prI))), u3, some (.dat (.list [sD (txt (ms.map nm)), sD (txt (ps.map pt))])), some (.dat (.list [sD (txt (ms.map nm)), sD (txt (ps.map pt)), sD (txt (ms.map nm)), sD (txt (ps.map pt))])), some (.dat (.list (fxs.map sD))), none, none, none, none, none, none, none] = some (.ok .nx [some (.own (dats b4)), some (.dat (.tuple (ms.map PyData.int))), some (.dat (.list (ps.map prI))), u3, some (.dat (.list [sD (txt (ms.map nm)), sD (txt (ps.map pt))])), some (.dat (.list [sD (txt (ms.map nm)), sD (txt (ps.map pt)), sD (txt (ms.map nm)), sD (txt (ps.map pt))])), some (.dat (.list (fxs.map sD))), some (.dat (sD (TL.joinL [32] ((List.range' 1 (17 + v)).map TL.numL)))), none, none, none, none, none, none]) := by
    unfold s_right_10
    have c1 := callB_x (env := [some (.own (dats b3)), some (.dat (.tuple (ms.map PyData.int))), some (.dat (.list (ps.map prI))), u3, some (.dat (.list [sD (txt (ms.map nm)), sD (txt (ps.map pt))])), some (.dat (.list [sD (txt (ms.map nm)), sD (txt (ps.map pt)), sD (txt (ms.map nm)), sD (txt (ps.map pt))])), some (.dat (.list (fxs.map sD))), none, none, none, none, none, none, none]) (i := 0) (FB := F_take 2) (b0 := b3) rfl (acons_x (con_x (d := .int 9)) anil_x) rfl rfl e4
    have rg : rngD2 [.int 1, .int (18 + (v : Int))] = some ((List.range' 1 (17 + v)).map nI) := by
      have := rng2N (a := 1) (b := 18 + v) (by decide) (by omega)
      rw [show 18 + v - 1 = 17 + v by omega] at this
      exact this
    have j := joinT_x (ps := (List.range' 1 (17 + v)).map TL.numL) (m := 2) (k := 100) (fun p hp => by
      obtain ⟨x, hx, rfl⟩ := List.mem_map.mp hp
      have := List.mem_range'.mp hx
      exact TL.numL_len (by decide) (by omega)) (by rw [List.length_map, List.length_range']; omega) (by decide)
    rw [List.map_map] at j
    have cm := compM_x (env := [some (.own (dats b4)), some (.dat (.tuple (ms.map PyData.int))), some (.dat (.list (ps.map prI))), u3, some (.dat (.list [sD (txt (ms.map nm)), sD (txt (ps.map pt))])), some (.dat (.list [sD (txt (ms.map nm)), sD (txt (ps.map pt)), sD (txt (ms.map nm)), sD (txt (ps.map pt))])), some (.dat (.list (fxs.map sD))), none, none, none, none, none, none, none]) (p := gN 8) (ft := yesT) (fe := cb strD (acons (get 8) anil)) (vs := [8]) (z := nI) (fun x => sD (TL.numL x)) (List.range' 1 (17 + v)) (by rw [List.length_range']; omega) fun x hx => ⟨[some (.own (dats b4)), some (.dat (.tuple (ms.map PyData.int))), some (.dat (.list (ps.map prI))), u3, some (.dat (.list [sD (txt (ms.map nm)), sD (txt (ps.map pt))])), some (.dat (.list [sD (txt (ms.map nm)), sD (txt (ps.map pt)), sD (txt (ms.map nm)), sD (txt (ps.map pt))])), some (.dat (.list (fxs.map sD))), none, some (.dat (nI x)), none, none, none, none, none], rfl, rfl, cb_x (acons_x (get_x rfl) anil_x) (vwC_x vwd_x vw0_x) (str_nat (by
      have := List.mem_range'.mp hx
      exact Nat.lt_of_lt_of_le (show x < 2 ^ 10 by omega) (Nat.pow_le_pow_right (by decide) (by decide)))), rfl, rfl⟩
    exact set_x (pl_x (txM1_x con_x (fz_x (lc_eq (argI_x (acons_x con_x (acons_x (op2_x con_x (fz_x c1 rfl) vwd_x vwd_x (addI_x _ _)) anil_x)) rfl rg) rfl rfl cm) (v_ofWo _)) vwd_x j) rfl) (Nat.le_of_ble_eq_true rfl)
  generalize TL.joinL [32] ((List.range' 1 (17 + v)).map TL.numL) = mo at s10 hmo
  obtain ⟨b5, v3, v9, v10, v11, v12, e5, k5⟩ := turns_ok nd hm hp hl9 hmo (w8 := none) 2 (k := 0) (w3 := u3) (w9 := none) (w10 := none) (w11 := none) (w12 := none) (by decide) k4 (by omega)
  have s11 : s_right_11 c [some (.own (dats b4)), some (.dat (.tuple (ms.map PyData.int))), some (.dat (.list (ps.map prI))), u3, some (.dat (.list [sD (txt (ms.map nm)), sD (txt (ps.map pt))])), some (.dat (.list [sD (txt (ms.map nm)), sD (txt (ps.map pt)), sD (txt (ms.map nm)), sD (txt (ps.map pt))])), some (.dat (.list (fxs.map sD))), some (.dat (sD mo)), none, none, none, none, none, none] = some (.ok .nx [some (.own (dats b5)), some (.dat (.tuple (ms.map PyData.int))), some (.dat (.list (ps.map prI))), v3, some (.dat (.list [sD (txt (ms.map nm)), sD (txt (ps.map pt))])), some (.dat (.list [sD (txt (ms.map nm)), sD (txt (ps.map pt)), sD (txt (ms.map nm)), sD (txt (ps.map pt))])), some (.dat (.list (fxs.map sD))), some (.dat (sD mo)), none, v9, v10, v11, v12, none]) := by
    unfold s_right_11
    exact for_x (argI_x (acons_x con_x anil_x) rfl (rng1N (n := 2) (by decide))) e5
  have tb := tour_back hp
  have rb := row_back hm
  have p0 : F_pairs_in [sD [45]] = some (.own (dats [])) := pairs_in_ok (l := [45]) (Nat.le_of_ble_eq_true rfl) rfl
  have p1 : F_pairs_in [sD (txt (ps.map pt))] = some (.own (dats (ps.map prI))) := by
    have := pairs_in_ok (l := txt (ps.map pt)) (by have := tour_len hp hl9; omega) tb.1
    rw [tb.2] at this
    exact this
  have p2 : F_row_in [sD (txt (ms.map nm))] = some (.dat (.tuple (ms.map PyData.int))) := by
    have := row_in_plain (l := txt (ms.map nm)) (by have := sum_len hm; omega) rb.1
    rw [rb.2] at this
    exact this
  have ix1 : ixD (.list [sD (txt (ms.map nm)), sD (txt (ps.map pt))]) (.int 1) = some (sD (txt (ps.map pt))) := sd_ix (q := 1) (by decide)
  have ix0 : ixD (.list [sD (txt (ms.map nm)), sD (txt (ps.map pt))]) (.int 0) = some (sD (txt (ms.map nm))) := sd_ix (q := 0) (by decide)
  have s12 : s_right_12 c [some (.own (dats b5)), some (.dat (.tuple (ms.map PyData.int))), some (.dat (.list (ps.map prI))), v3, some (.dat (.list [sD (txt (ms.map nm)), sD (txt (ps.map pt))])), some (.dat (.list [sD (txt (ms.map nm)), sD (txt (ps.map pt)), sD (txt (ms.map nm)), sD (txt (ps.map pt))])), some (.dat (.list (fxs.map sD))), some (.dat (sD mo)), none, v9, v10, v11, v12, none] = some (.ok .nx [some (.own (dats b5)), some (.dat (.tuple (ms.map PyData.int))), some (.dat (.list (ps.map prI))), v3, some (.dat (.list [sD (txt (ms.map nm)), sD (txt (ps.map pt))])), some (.dat (.list [sD (txt (ms.map nm)), sD (txt (ps.map pt)), sD (txt (ms.map nm)), sD (txt (ps.map pt))])), some (.dat (.list (fxs.map sD))), some (.dat (sD mo)), none, v9, v10, v11, v12, some (.own [.own [], .own (ps.map prI)])]) := by
    unfold s_right_12
    exact set_x (lstN_x (wcons_x (callA_x (acons_x con_x anil_x) rfl p0) (wcons_x (callA_x (acons_x (op2_x (get_x (i := 4) rfl) con_x vwd_x vwd_x ix1) anil_x) rfl p1) wnil_x)) (it1s_o (it1s_o it1s_0)) (Nat.le_of_ble_eq_true rfl)) (Nat.le_of_ble_eq_true rfl)
  have s13 : s_right_13 c [some (.own (dats b5)), some (.dat (.tuple (ms.map PyData.int))), some (.dat (.list (ps.map prI))), v3, some (.dat (.list [sD (txt (ms.map nm)), sD (txt (ps.map pt))])), some (.dat (.list [sD (txt (ms.map nm)), sD (txt (ps.map pt)), sD (txt (ms.map nm)), sD (txt (ps.map pt))])), some (.dat (.list (fxs.map sD))), some (.dat (sD mo)), none, v9, v10, v11, v12, some (.own [.own [], .own (ps.map prI)])] = some (.ok .nx [some (.own (dats b5)), some (.dat (.tuple (ms.map PyData.int))), some (.dat (.list (ps.map prI))), v3, some (.dat (.list [sD (txt (ms.map nm)), sD (txt (ps.map pt))])), some (.dat (.list [sD (txt (ms.map nm)), sD (txt (ps.map pt)), sD (txt (ms.map nm)), sD (txt (ps.map pt))])), some (.dat (.list (fxs.map sD))), some (.dat (sD mo)), none, v9, v10, v11, v12, some (.own [.own [.str "more"], .own (ps.map prI)])]) := by
    unfold s_right_13
    exact expr_x (mthN_x (i := 13) (k := 0) (ds := []) (xs := [.own [], .own (ps.map prI)]) (z := ([.str "more"], .none)) rfl rfl rfl)
  have s14 : s_right_14 c [some (.own (dats b5)), some (.dat (.tuple (ms.map PyData.int))), some (.dat (.list (ps.map prI))), v3, some (.dat (.list [sD (txt (ms.map nm)), sD (txt (ps.map pt))])), some (.dat (.list [sD (txt (ms.map nm)), sD (txt (ps.map pt)), sD (txt (ms.map nm)), sD (txt (ps.map pt))])), some (.dat (.list (fxs.map sD))), some (.dat (sD mo)), none, v9, v10, v11, v12, some (.own [.own [.str "more"], .own (ps.map prI)])] = some (.ok .nx [some (.own (dats b5)), some (.dat (.tuple (ms.map PyData.int))), some (.dat (.list (ps.map prI))), v3, some (.dat (.list [sD (txt (ms.map nm)), sD (txt (ps.map pt))])), some (.dat (.list [sD (txt (ms.map nm)), sD (txt (ps.map pt)), sD (txt (ms.map nm)), sD (txt (ps.map pt))])), some (.dat (.list (fxs.map sD))), some (.dat (sD mo)), none, v9, v10, v11, v12, some (.own [.own [.str "more"], .own (ps.map prI ++ [.str "more"])])]) := by
    unfold s_right_14
    exact expr_x (mthN_x (i := 13) (k := 1) (ds := ps.map prI) (xs := [.own [.str "more"], .own (ps.map prI)]) (z := (ps.map prI ++ [.str "more"], .none)) rfl rfl (app_x (by rw [List.length_map]; omega)))
  have os2 : okS 5 (.list [.list [], .list (ps.map prI), .tuple (ms.map PyData.int)]) := osL (.inl rfl) (Nat.le_of_ble_eq_true rfl) fun x hx => by
    simp only [List.mem_cons, List.not_mem_nil, or_false] at hx
    rcases hx with rfl | rfl | rfl
    · exact osL (.inl rfl) (Nat.le_of_ble_eq_true rfl) fun x hx => by cases hx
    · exact osL (.inl rfl) (by rw [List.length_map]; omega) fun x hx => by
        obtain ⟨p, _, rfl⟩ := List.mem_map.mp hx
        exact osP p
    · exact (okS.ints (n := 2) ms (by omega)).1
  refine ⟨b5, runB_eq rfl ⟨[some (.dat (.tuple (ms.map PyData.int))), some (.dat (.list (ps.map prI))), v3, some (.dat (.list [sD (txt (ms.map nm)), sD (txt (ps.map pt))])), some (.dat (.list [sD (txt (ms.map nm)), sD (txt (ps.map pt)), sD (txt (ms.map nm)), sD (txt (ps.map pt))])), some (.dat (.list (fxs.map sD))), some (.dat (sD mo)), none, v9, v10, v11, v12, some (.own [.own [.str "more"], .own (ps.map prI ++ [.str "more"])])], ?_⟩, k5.mono (by omega)⟩
  show f_right c [some (.own (dats bs0)), none, none, none, none, none, none, none, none, none, none, none, none, none] = _
  unfold f_right
  refine then_x s0 (then_x s1 (then_x s2 (then_x s3 (then_x s4 (then_x s5 (then_x s6 (then_x s7 (then_x s8 (then_x s9 (then_x s10 (then_x s11 (then_x s12 (then_x s13 (then_x s14 ?_))))))))))))))
  unfold s_right_15
  exact ret_x (pl_x (fz_x (callA_x (acons_x (lst_x (ds := [.list [], .list (ps.map prI), .tuple (ms.map PyData.int)]) (acons_x (fz_x (callA_x (acons_x con_x anil_x) rfl p0) (v_ofWo _)) (acons_x (fz_x (callA_x (acons_x (op2_x (get_x (i := 4) rfl) con_x vwd_x vwd_x ix1) anil_x) rfl p1) (v_ofWo _)) (acons_x (fz_x (callA_x (acons_x (op2_x (get_x (i := 4) rfl) con_x vwd_x vwd_x ix0) anil_x) rfl p2) rfl) anil_x))) rfl (Nat.le_of_ble_eq_true rfl)) (acons_x (lst_x (ds := [.list [], .list (ps.map prI), .tuple (ms.map PyData.int)]) (acons_x (lst_x anil_x rfl (Nat.le_of_ble_eq_true rfl)) (acons_x (get_x (i := 2) rfl) (acons_x (get_x (i := 1) rfl) anil_x))) rfl (Nat.le_of_ble_eq_true rfl)) anil_x)) rfl (same_ok os2)) rfl) rfl)
end
end Ov
set_option Elab.async false
set_option linter.all false
set_option maxRecDepth 100000
set_option maxHeartbeats 4000000
namespace Ov
open PySem L2
theorem law_body {ns : List Int} {k : Int} {w2 : Option Wv} {b l bs1 : List PyData} {c : Ad}
    (h1 : F_box [.list (ns.map PyData.int), .int k] = some (.own (dats b)))
    (h2 : (lcW (argI rngD (acons (con (.int 3)) anil)) (gN 3) yesT (fz (callB 2 (F_right c) anil)) [3]) [some (.dat (.list (ns.map PyData.int))), some (.dat (.int k)), some (.own (dats b)), none] = some (.ok (.own (dats l)) [some (.dat (.list (ns.map PyData.int))), some (.dat (.int k)), some (.own (dats bs1)), none]))
    (h3 : allD [.list l] = some (.bool true)) :
    (b_law_0 c) [some (.dat (.list (ns.map PyData.int))), some (.dat (.int k)), w2, none] = some (.ok .nx [some (.dat (.list (ns.map PyData.int))), some (.dat (.int k)), some (.own (dats bs1)), none]) := by
  unfold b_law_0
  exact (then_x (set_x (callA_x (acons_x (get_x rfl) (acons_x (get_x rfl) anil_x)) rfl h1) (Nat.le_of_ble_eq_true rfl)) (ifS_f (notT_x (tb_x (cb_x (acons_x (fz_x h2 (v_ofWo _)) anil_x) (vwC_x vwd_x vw0_x) h3) vwd_x)) nxt_x))
theorem law_go {c : Ad} {ns : List Int} {l : List PyData} {u1 u2 u3 : Option Wv}
    (h1 : rngD [.int (1 + (min (3 : Int) (ns.length : Nat)))] = some l)
    (h2 : forM (gN 1) (b_law_0 c) l [some (.dat (.list (ns.map PyData.int))), none, none, none] = some (.ok .nx [some (.dat (.list (ns.map PyData.int))), u1, u2, u3])) :
    F_law c [.list (ns.map PyData.int)] = some (.dat (.bool true)) := by
  have s0 : s_law_0 c [some (.dat (.list (ns.map PyData.int))), none, none, none] = some (.ok .nx [some (.dat (.list (ns.map PyData.int))), u1, u2, u3]) := by
    unfold s_law_0
    exact (for_x (argI_x (acons_x (op2_x con_x (cb_x (acons_x con_x (acons_x (cb_x (acons_x (get_x rfl) anil_x) (vwC_x vwd_x vw0_x) (lenLm_x _ _)) anil_x)) (vwC_x vwd_x (vwC_x vwd_x vw0_x)) (min_x _ _)) vwd_x vwd_x (addI_x _ _)) anil_x) rfl h1) h2)
  refine runA_eq rfl ⟨[some (.dat (.list (ns.map PyData.int))), u1, u2, u3], ?_⟩
  show f_law c [some (.dat (.list (ns.map PyData.int))), none, none, none] = _
  unfold f_law
  rw [then_nx s0]
  unfold s_law_1
  exact (ret_x (pl_x con_x rfl))
theorem turn_comp {c : Ad} (nd : Nd c) {d0 d1 : Option Wv} : ∀ (j : Nat) {k : Nat} {n : Int} {bs acc : List PyData}, Bok n bs → n + 2000 * j ≤ 10 ^ 6 → acc.length + j ≤ 1000 → ∃ bs', compM (gN 3) yesT (fz (callB 2 (F_right c) anil)) [3] ((List.range' k j).map nI) acc [d0, d1, some (.own (dats bs)), none] = some (.ok (acc ++ (List.range' k j).map fun _ => .bool true) [d0, d1, some (.own (dats bs')), none]) ∧ Bok (n + 2000 * j) bs'
  | 0, k, n, bs, acc, hb, _, _ => ⟨bs, by show some _ = some _; rw [show (List.range' k 0).map (fun _ => PyData.bool true) = [] from rfl, List.append_nil], hb.mono (by omega)⟩
  | j + 1, k, n, bs, acc, hb, hn, hl => by
    obtain ⟨bs1, e1, k1⟩ := right_ok nd hb (by omega)
    obtain ⟨bs', e, k2⟩ := turn_comp nd (d0 := d0) (d1 := d1) j (k := k + 1) (acc := acc ++ [.bool true]) k1 (by omega) (by rw [List.length_append]; show acc.length + 1 + j ≤ _; omega)
    refine ⟨bs', ?_, k2.mono (by omega)⟩
    rw [List.range'_succ, List.map_cons, List.map_cons]
    refine (comp_yes (e := [d0, d1, some (.own (dats bs)), some (.dat (nI k))]) (e2 := [d0, d1, some (.own (dats bs)), some (.dat (nI k))]) (e3 := [d0, d1, some (.own (dats bs1)), some (.dat (nI k))]) (y := .bool true) rfl rfl (fz_x (callB_x rfl anil_x rfl rfl e1) rfl) rfl (by omega)).trans (e.trans ?_)
    rw [List.append_assoc]
    rfl
theorem law_loop {c : Ad} (nd : Nd c) {ns : List Int} : ∀ (j : Nat) {k : Nat} {w1 w2 : Option Wv}, k + j ≤ 4 → ∃ u1 u2, forM (gN 1) (b_law_0 c) ((List.range' k j).map nI) [some (.dat (.list (ns.map .int))), w1, w2, none] = some (.ok .nx [some (.dat (.list (ns.map .int))), u1, u2, none])
  | 0, k, w1, w2, _ => ⟨w1, w2, for_nil⟩
  | j + 1, k, w1, w2, h => by
    obtain ⟨bs, b1, b2⟩ := box_ok (ns := ns) (k := (k : Int)) (by omega) (by omega)
    obtain ⟨bs', c1, c2⟩ := turn_comp nd (d0 := some (.dat (.list (ns.map .int)))) (d1 := some (.dat (.int (k : Int)))) 3 (k := 0) (acc := []) b2 (by omega) (by decide)
    rw [List.nil_append] at c1
    have al := all_map (List.range' 0 3) fun _ => true
    rw [List.all_eq_true.mpr fun _ _ => rfl] at al
    have st := law_body (ns := ns) (k := (k : Int)) (w2 := w2) b1 (lc_eq (argI_x (acons_x con_x anil_x) rfl (rng1N (n := 3) (by decide))) rfl rfl c1) al
    obtain ⟨u1, u2, e⟩ := law_loop nd (ns := ns) j (k := k + 1) (w1 := some (.dat (.int (k : Int)))) (w2 := some (.own (dats bs'))) (by omega)
    rw [List.range'_succ, List.map_cons]
    exact ⟨u1, u2, (for_go (e := [some (.dat (.list (ns.map .int))), some (.dat (.int (k : Int))), w2, none]) rfl st).trans e⟩
theorem law_ok (c : Ad) (nd : Nd c) (ns : List Int) : F_law c [.list (ns.map .int)] = some (.dat (.bool true)) := by
  obtain ⟨u1, u2, e⟩ := law_loop nd (ns := ns) (1 + min 3 ns.length) (k := 0) (w1 := none) (w2 := none) (by omega)
  have r : rngD [.int (1 + min 3 ((ns.length : Nat) : Int))] = some ((List.range' 0 (1 + min 3 ns.length)).map nI) := by
    rw [show (1 : Int) + min 3 ((ns.length : Nat) : Int) = ((1 + min 3 ns.length : Nat) : Int) by omega]
    exact rng1N (by omega)
  exact law_go r e
end Ov
set_option Elab.async false
set_option linter.all false
set_option maxRecDepth 100000
set_option maxHeartbeats 4000000
namespace Ov
open PySem L2
theorem all_mk {l : PySem.W.OpenLaw} {w : World} {K : PySem.W.Frag} {h : Heap} {mg : Str → Option Value} {fa f0 f1 f2 f3 f4 f5 f6 f7 f8 f9 f10 f11 f12 f13 f14 f15 f16 f17 f18 f19 f20 f21 f22 f23 f24 f25 f26 f27 f28 f29 CBadText iBadText CBadLine iBadLine : Addr} (X : K.In h) (G : h.Ns mainGlobals mg) (hfa : mg "law" = some (.ref fa))
    {od0 an0 : Option Addr} {sl0 : Array (Option Value)} {oc0 kV0 dc0 pm0 cd0 ct0 : Value}
    {od1 an1 : Option Addr} {sl1 : Array (Option Value)} {oc1 kV1 dc1 pm1 cd1 ct1 : Value}
    {od2 an2 : Option Addr} {sl2 : Array (Option Value)} {oc2 kV2 dc2 pm2 cd2 ct2 : Value}
    {od3 an3 : Option Addr} {sl3 : Array (Option Value)} {oc3 kV3 dc3 pm3 cd3 ct3 : Value}
    {od4 an4 : Option Addr} {sl4 : Array (Option Value)} {oc4 kV4 dc4 pm4 cd4 ct4 : Value}
    {od5 an5 : Option Addr} {sl5 : Array (Option Value)} {oc5 kV5 dc5 pm5 cd5 ct5 : Value}
    {od6 an6 : Option Addr} {sl6 : Array (Option Value)} {oc6 kV6 dc6 pm6 cd6 ct6 : Value}
    {od7 an7 : Option Addr} {sl7 : Array (Option Value)} {oc7 kV7 dc7 pm7 cd7 ct7 : Value}
    {od8 an8 : Option Addr} {sl8 : Array (Option Value)} {oc8 kV8 dc8 pm8 cd8 ct8 : Value}
    {od9 an9 : Option Addr} {sl9 : Array (Option Value)} {oc9 kV9 dc9 pm9 cd9 ct9 : Value}
    {od10 an10 : Option Addr} {sl10 : Array (Option Value)} {oc10 kV10 dc10 pm10 cd10 ct10 : Value}
    {od11 an11 : Option Addr} {sl11 : Array (Option Value)} {oc11 kV11 dc11 pm11 cd11 ct11 : Value}
    {od12 an12 : Option Addr} {sl12 : Array (Option Value)} {oc12 kV12 dc12 pm12 cd12 ct12 : Value}
    {od13 an13 : Option Addr} {sl13 : Array (Option Value)} {oc13 kV13 dc13 pm13 cd13 ct13 : Value}
    {od14 an14 : Option Addr} {sl14 : Array (Option Value)} {oc14 kV14 dc14 pm14 cd14 ct14 : Value}
    {od15 an15 : Option Addr} {sl15 : Array (Option Value)} {oc15 kV15 dc15 pm15 cd15 ct15 : Value}
    {od16 an16 : Option Addr} {sl16 : Array (Option Value)} {oc16 kV16 dc16 pm16 cd16 ct16 : Value}
    {od17 an17 : Option Addr} {sl17 : Array (Option Value)} {oc17 kV17 dc17 pm17 cd17 ct17 : Value}
    {od18 an18 : Option Addr} {sl18 : Array (Option Value)} {oc18 kV18 dc18 pm18 cd18 ct18 : Value}
    {od19 an19 : Option Addr} {sl19 : Array (Option Value)} {oc19 kV19 dc19 pm19 cd19 ct19 : Value}
    {od20 an20 : Option Addr} {sl20 : Array (Option Value)} {oc20 kV20 dc20 pm20 cd20 ct20 : Value}
    {od21 an21 : Option Addr} {sl21 : Array (Option Value)} {oc21 kV21 dc21 pm21 cd21 ct21 : Value}
    {od22 an22 : Option Addr} {sl22 : Array (Option Value)} {oc22 kV22 dc22 pm22 cd22 ct22 : Value}
    {od23 an23 : Option Addr} {sl23 : Array (Option Value)} {oc23 kV23 dc23 pm23 cd23 ct23 : Value}
    {od24 an24 : Option Addr} {sl24 : Array (Option Value)} {oc24 kV24 dc24 pm24 cd24 ct24 : Value}
    {od25 an25 : Option Addr} {sl25 : Array (Option Value)} {oc25 kV25 dc25 pm25 cd25 ct25 : Value}
    {od26 an26 : Option Addr} {sl26 : Array (Option Value)} {oc26 kV26 dc26 pm26 cd26 ct26 : Value}
    {od27 an27 : Option Addr} {sl27 : Array (Option Value)} {oc27 kV27 dc27 pm27 cd27 ct27 : Value}
    {od28 an28 : Option Addr} {sl28 : Array (Option Value)} {oc28 kV28 dc28 pm28 cd28 ct28 : Value}
    {od29 an29 : Option Addr} {sl29 : Array (Option Value)} {oc29 kV29 dc29 pm29 cd29 ct29 : Value}
    {nmBadText qBadText : Str} {NBadText : Addr} {bsBadText sbBadText : List Value} {snBadText : List Str} {abBadText : Bool} {coBadText : Option Bool} {ddBadText : Option Addr} {w0BadText w1BadText w2BadText w3BadText w5BadText : Option Value}
    {odBadText anBadText : Option Addr} {slBadText : Array (Option Value)} {ocBadText kVBadText dcBadText pmBadText cdBadText ctBadText : Value}
    {nmBadLine qBadLine : Str} {NBadLine : Addr} {bsBadLine sbBadLine : List Value} {snBadLine : List Str} {abBadLine : Bool} {coBadLine : Option Bool} {ddBadLine : Option Addr} {w0BadLine w1BadLine w2BadLine w3BadLine w5BadLine : Option Value}
    {odBadLine anBadLine : Option Addr} {slBadLine : Array (Option Value)} {ocBadLine kVBadLine dcBadLine pmBadLine cdBadLine ctBadLine : Value}
    {tNOTHING : Tok}{tMOST_DIGITS : Tok}
    (a0 : PySem.W.nsIn K mainGlobals "is_number" = some (some (.ref f0)))
    (l0 : K.lookup f0 = some ⟨oc0, od0, .func (PySem.W.fnOf "is_number" "is_number" (defArgs S_is_number) (defBody S_is_number) (defScope S_is_number) .none kV0 dc0 pm0 an0 cd0 ct0), sl0⟩)
    (c0 : PySem.W.codeIn K cd0 "is_number" = true)
    (k0 : PySem.W.keepIn K (.ref f0) = true)
    (a1 : PySem.W.nsIn K mainGlobals "is_row" = some (some (.ref f1)))
    (l1 : K.lookup f1 = some ⟨oc1, od1, .func (PySem.W.fnOf "is_row" "is_row" (defArgs S_is_row) (defBody S_is_row) (defScope S_is_row) .none kV1 dc1 pm1 an1 cd1 ct1), sl1⟩)
    (c1 : PySem.W.codeIn K cd1 "is_row" = true)
    (k1 : PySem.W.keepIn K (.ref f1) = true)
    (a2 : PySem.W.nsIn K mainGlobals "row_text" = some (some (.ref f2)))
    (l2 : K.lookup f2 = some ⟨oc2, od2, .func (PySem.W.fnOf "row_text" "row_text" (defArgs S_row_text) (defBody S_row_text) (defScope S_row_text) .none kV2 dc2 pm2 an2 cd2 ct2), sl2⟩)
    (c2 : PySem.W.codeIn K cd2 "row_text" = true)
    (k2 : PySem.W.keepIn K (.ref f2) = true)
    (a3 : PySem.W.nsIn K mainGlobals "pairs_text" = some (some (.ref f3)))
    (l3 : K.lookup f3 = some ⟨oc3, od3, .func (PySem.W.fnOf "pairs_text" "pairs_text" (defArgs S_pairs_text) (defBody S_pairs_text) (defScope S_pairs_text) .none kV3 dc3 pm3 an3 cd3 ct3), sl3⟩)
    (c3 : PySem.W.codeIn K cd3 "pairs_text" = true)
    (k3 : PySem.W.keepIn K (.ref f3) = true)
    (a4 : PySem.W.nsIn K mainGlobals "row_in" = some (some (.ref f4)))
    (l4 : K.lookup f4 = some ⟨oc4, od4, .func (PySem.W.fnOf "row_in" "row_in" (defArgs S_row_in) (defBody S_row_in) (defScope S_row_in) .none kV4 dc4 pm4 an4 cd4 ct4), sl4⟩)
    (c4 : PySem.W.codeIn K cd4 "row_in" = true)
    (k4 : PySem.W.keepIn K (.ref f4) = true)
    (a5 : PySem.W.nsIn K mainGlobals "pairs_in" = some (some (.ref f5)))
    (l5 : K.lookup f5 = some ⟨oc5, od5, .func (PySem.W.fnOf "pairs_in" "pairs_in" (defArgs S_pairs_in) (defBody S_pairs_in) (defScope S_pairs_in) .none kV5 dc5 pm5 an5 cd5 ct5), sl5⟩)
    (c5 : PySem.W.codeIn K cd5 "pairs_in" = true)
    (k5 : PySem.W.keepIn K (.ref f5) = true)
    (a6 : PySem.W.nsIn K mainGlobals "joined" = some (some (.ref f6)))
    (l6 : K.lookup f6 = some ⟨oc6, od6, .func (PySem.W.fnOf "joined" "joined" (defArgs S_joined) (defBody S_joined) (defScope S_joined) .none kV6 dc6 pm6 an6 cd6 ct6), sl6⟩)
    (c6 : PySem.W.codeIn K cd6 "joined" = true)
    (k6 : PySem.W.keepIn K (.ref f6) = true)
    (a7 : PySem.W.nsIn K mainGlobals "words_in" = some (some (.ref f7)))
    (l7 : K.lookup f7 = some ⟨oc7, od7, .func (PySem.W.fnOf "words_in" "words_in" (defArgs S_words_in) (defBody S_words_in) (defScope S_words_in) .none kV7 dc7 pm7 an7 cd7 ct7), sl7⟩)
    (c7 : PySem.W.codeIn K cd7 "words_in" = true)
    (k7 : PySem.W.keepIn K (.ref f7) = true)
    (a8 : PySem.W.nsIn K mainGlobals "is_written_number" = some (some (.ref f8)))
    (l8 : K.lookup f8 = some ⟨oc8, od8, .func (PySem.W.fnOf "is_written_number" "is_written_number" (defArgs S_is_written_number) (defBody S_is_written_number) (defScope S_is_written_number) .none kV8 dc8 pm8 an8 cd8 ct8), sl8⟩)
    (c8 : PySem.W.codeIn K cd8 "is_written_number" = true)
    (k8 : PySem.W.keepIn K (.ref f8) = true)
    (a9 : PySem.W.nsIn K mainGlobals "is_written_pair" = some (some (.ref f9)))
    (l9 : K.lookup f9 = some ⟨oc9, od9, .func (PySem.W.fnOf "is_written_pair" "is_written_pair" (defArgs S_is_written_pair) (defBody S_is_written_pair) (defScope S_is_written_pair) .none kV9 dc9 pm9 an9 cd9 ct9), sl9⟩)
    (c9 : PySem.W.codeIn K cd9 "is_written_pair" = true)
    (k9 : PySem.W.keepIn K (.ref f9) = true)
    (a10 : PySem.W.nsIn K mainGlobals "_law_cell_at" = some (some (.ref f10)))
    (l10 : K.lookup f10 = some ⟨oc10, od10, .func (PySem.W.fnOf "_law_cell_at" "_law_cell_at" (defArgs S_cell_at) (defBody S_cell_at) (defScope S_cell_at) .none kV10 dc10 pm10 an10 cd10 ct10), sl10⟩)
    (c10 : PySem.W.codeIn K cd10 "_law_cell_at" = true)
    (k10 : PySem.W.keepIn K (.ref f10) = true)
    (a11 : PySem.W.nsIn K mainGlobals "_law_box" = some (some (.ref f11)))
    (l11 : K.lookup f11 = some ⟨oc11, od11, .func (PySem.W.fnOf "_law_box" "_law_box" (defArgs S_box) (defBody S_box) (defScope S_box) .none kV11 dc11 pm11 an11 cd11 ct11), sl11⟩)
    (c11 : PySem.W.codeIn K cd11 "_law_box" = true)
    (k11 : PySem.W.keepIn K (.ref f11) = true)
    (a12 : PySem.W.nsIn K mainGlobals "_law_take" = some (some (.ref f12)))
    (l12 : K.lookup f12 = some ⟨oc12, od12, .func (PySem.W.fnOf "_law_take" "_law_take" (defArgs S_take) (defBody S_take) (defScope S_take) .none kV12 dc12 pm12 an12 cd12 ct12), sl12⟩)
    (c12 : PySem.W.codeIn K cd12 "_law_take" = true)
    (k12 : PySem.W.keepIn K (.ref f12) = true)
    (a13 : PySem.W.nsIn K mainGlobals "_law_of" = some (some (.ref f13)))
    (l13 : K.lookup f13 = some ⟨oc13, od13, .func (PySem.W.fnOf "_law_of" "_law_of" (defArgs S_of) (defBody S_of) (defScope S_of) .none kV13 dc13 pm13 an13 cd13 ct13), sl13⟩)
    (c13 : PySem.W.codeIn K cd13 "_law_of" = true)
    (k13 : PySem.W.keepIn K (.ref f13) = true)
    (a14 : PySem.W.nsIn K mainGlobals "_law_same" = some (some (.ref f14)))
    (l14 : K.lookup f14 = some ⟨oc14, od14, .func (PySem.W.fnOf "_law_same" "_law_same" (defArgs S_same) (defBody S_same) (defScope S_same) .none kV14 dc14 pm14 an14 cd14 ct14), sl14⟩)
    (c14 : PySem.W.codeIn K cd14 "_law_same" = true)
    (k14 : PySem.W.keepIn K (.ref f14) = true)
    (a15 : PySem.W.nsIn K mainGlobals "_law_strewn" = some (some (.ref f15)))
    (l15 : K.lookup f15 = some ⟨oc15, od15, .func (PySem.W.fnOf "_law_strewn" "_law_strewn" (defArgs S_strewn) (defBody S_strewn) (defScope S_strewn) .none kV15 dc15 pm15 an15 cd15 ct15), sl15⟩)
    (c15 : PySem.W.codeIn K cd15 "_law_strewn" = true)
    (k15 : PySem.W.keepIn K (.ref f15) = true)
    (a16 : PySem.W.nsIn K mainGlobals "_law_lists" = some (some (.ref f16)))
    (l16 : K.lookup f16 = some ⟨oc16, od16, .func (PySem.W.fnOf "_law_lists" "_law_lists" (defArgs S_lists) (defBody S_lists) (defScope S_lists) .none kV16 dc16 pm16 an16 cd16 ct16), sl16⟩)
    (c16 : PySem.W.codeIn K cd16 "_law_lists" = true)
    (k16 : PySem.W.keepIn K (.ref f16) = true)
    (a17 : PySem.W.nsIn K mainGlobals "_law_souls" = some (some (.ref f17)))
    (l17 : K.lookup f17 = some ⟨oc17, od17, .func (PySem.W.fnOf "_law_souls" "_law_souls" (defArgs S_souls) (defBody S_souls) (defScope S_souls) .none kV17 dc17 pm17 an17 cd17 ct17), sl17⟩)
    (c17 : PySem.W.codeIn K cd17 "_law_souls" = true)
    (k17 : PySem.W.keepIn K (.ref f17) = true)
    (a18 : PySem.W.nsIn K mainGlobals "_law_crowd" = some (some (.ref f18)))
    (l18 : K.lookup f18 = some ⟨oc18, od18, .func (PySem.W.fnOf "_law_crowd" "_law_crowd" (defArgs S_crowd) (defBody S_crowd) (defScope S_crowd) .none kV18 dc18 pm18 an18 cd18 ct18), sl18⟩)
    (c18 : PySem.W.codeIn K cd18 "_law_crowd" = true)
    (k18 : PySem.W.keepIn K (.ref f18) = true)
    (a19 : PySem.W.nsIn K mainGlobals "_law_digits" = some (some (.ref f19)))
    (l19 : K.lookup f19 = some ⟨oc19, od19, .func (PySem.W.fnOf "_law_digits" "_law_digits" (defArgs S_digits) (defBody S_digits) (defScope S_digits) .none kV19 dc19 pm19 an19 cd19 ct19), sl19⟩)
    (c19 : PySem.W.codeIn K cd19 "_law_digits" = true)
    (k19 : PySem.W.keepIn K (.ref f19) = true)
    (a20 : PySem.W.nsIn K mainGlobals "_law_figures" = some (some (.ref f20)))
    (l20 : K.lookup f20 = some ⟨oc20, od20, .func (PySem.W.fnOf "_law_figures" "_law_figures" (defArgs S_figures) (defBody S_figures) (defScope S_figures) .none kV20 dc20 pm20 an20 cd20 ct20), sl20⟩)
    (c20 : PySem.W.codeIn K cd20 "_law_figures" = true)
    (k20 : PySem.W.keepIn K (.ref f20) = true)
    (a21 : PySem.W.nsIn K mainGlobals "_law_sum_text" = some (some (.ref f21)))
    (l21 : K.lookup f21 = some ⟨oc21, od21, .func (PySem.W.fnOf "_law_sum_text" "_law_sum_text" (defArgs S_sum_text) (defBody S_sum_text) (defScope S_sum_text) .none kV21 dc21 pm21 an21 cd21 ct21), sl21⟩)
    (c21 : PySem.W.codeIn K cd21 "_law_sum_text" = true)
    (k21 : PySem.W.keepIn K (.ref f21) = true)
    (a22 : PySem.W.nsIn K mainGlobals "_law_tour_text" = some (some (.ref f22)))
    (l22 : K.lookup f22 = some ⟨oc22, od22, .func (PySem.W.fnOf "_law_tour_text" "_law_tour_text" (defArgs S_tour_text) (defBody S_tour_text) (defScope S_tour_text) .none kV22 dc22 pm22 an22 cd22 ct22), sl22⟩)
    (c22 : PySem.W.codeIn K cd22 "_law_tour_text" = true)
    (k22 : PySem.W.keepIn K (.ref f22) = true)
    (a23 : PySem.W.nsIn K mainGlobals "_law_crowd_in" = some (some (.ref f23)))
    (l23 : K.lookup f23 = some ⟨oc23, od23, .func (PySem.W.fnOf "_law_crowd_in" "_law_crowd_in" (defArgs S_crowd_in) (defBody S_crowd_in) (defScope S_crowd_in) .none kV23 dc23 pm23 an23 cd23 ct23), sl23⟩)
    (c23 : PySem.W.codeIn K cd23 "_law_crowd_in" = true)
    (k23 : PySem.W.keepIn K (.ref f23) = true)
    (a24 : PySem.W.nsIn K mainGlobals "_law_tour_in" = some (some (.ref f24)))
    (l24 : K.lookup f24 = some ⟨oc24, od24, .func (PySem.W.fnOf "_law_tour_in" "_law_tour_in" (defArgs S_tour_in) (defBody S_tour_in) (defScope S_tour_in) .none kV24 dc24 pm24 an24 cd24 ct24), sl24⟩)
    (c24 : PySem.W.codeIn K cd24 "_law_tour_in" = true)
    (k24 : PySem.W.keepIn K (.ref f24) = true)
    (a25 : PySem.W.nsIn K mainGlobals "_law_bent_text" = some (some (.ref f25)))
    (l25 : K.lookup f25 = some ⟨oc25, od25, .func (PySem.W.fnOf "_law_bent_text" "_law_bent_text" (defArgs S_bent_text) (defBody S_bent_text) (defScope S_bent_text) .none kV25 dc25 pm25 an25 cd25 ct25), sl25⟩)
    (c25 : PySem.W.codeIn K cd25 "_law_bent_text" = true)
    (k25 : PySem.W.keepIn K (.ref f25) = true)
    (a26 : PySem.W.nsIn K mainGlobals "_law_told" = some (some (.ref f26)))
    (l26 : K.lookup f26 = some ⟨oc26, od26, .func (PySem.W.fnOf "_law_told" "_law_told" (defArgs S_told) (defBody S_told) (defScope S_told) .none kV26 dc26 pm26 an26 cd26 ct26), sl26⟩)
    (c26 : PySem.W.codeIn K cd26 "_law_told" = true)
    (k26 : PySem.W.keepIn K (.ref f26) = true)
    (a27 : PySem.W.nsIn K mainGlobals "_law_due" = some (some (.ref f27)))
    (l27 : K.lookup f27 = some ⟨oc27, od27, .func (PySem.W.fnOf "_law_due" "_law_due" (defArgs S_due) (defBody S_due) (defScope S_due) .none kV27 dc27 pm27 an27 cd27 ct27), sl27⟩)
    (c27 : PySem.W.codeIn K cd27 "_law_due" = true)
    (k27 : PySem.W.keepIn K (.ref f27) = true)
    (a28 : PySem.W.nsIn K mainGlobals "_law_right" = some (some (.ref f28)))
    (l28 : K.lookup f28 = some ⟨oc28, od28, .func (PySem.W.fnOf "_law_right" "_law_right" (defArgs S_right) (defBody S_right) (defScope S_right) .none kV28 dc28 pm28 an28 cd28 ct28), sl28⟩)
    (c28 : PySem.W.codeIn K cd28 "_law_right" = true)
    (k28 : PySem.W.keepIn K (.ref f28) = true)
    (a29 : PySem.W.nsIn K mainGlobals "law" = some (some (.ref f29)))
    (l29 : K.lookup f29 = some ⟨oc29, od29, .func (PySem.W.fnOf "law" "law" (defArgs S_law) (defBody S_law) (defScope S_law) .none kV29 dc29 pm29 an29 cd29 ct29), sl29⟩)
    (c29 : PySem.W.codeIn K cd29 "law" = true)
    (k29 : PySem.W.keepIn K (.ref f29) = true)
    (gBadText : PySem.W.nsIn K mainGlobals "BadText" = some (some (.ref CBadText)))
    (xBadText : K.lookup CBadText = some (excClassObj nmBadText qBadText CBadText NBadText bsBadText tlValueError true snBadText sbBadText abBadText coBadText ddBadText w0BadText w1BadText w2BadText w3BadText w5BadText "ValueError.__new__"))
    (saBadText : PySem.W.findIn K (.ref CBadText) "__setattr__" = some (some (.builtin "object.__setattr__")))
    (gaBadText : PySem.W.findIn K (.ref CBadText) "__getattribute__" = some (some (.builtin "BaseException.__getattribute__")))
    (ggBadText : PySem.W.findIn K (.ref CBadText) "__getattr__" = some none)
    (kCBadText : PySem.W.keepIn K (.ref CBadText) = true)
    (caBadText : PySem.W.findIn K (.ref CBadText) "__class__" = some (some (.builtin "object.__class__")))
    (tyBadText : PySem.W.typeIn K (.ref CBadText) = some (.type "type"))
    (iCBadText : PySem.W.findIn K (.ref CBadText) "__init__" = some (some (.ref iBadText)))
    (tIBadText : PySem.W.typeIn K (.ref iBadText) = some (.type "function"))
    (lIBadText : K.lookup iBadText = some ⟨ocBadText, odBadText, .func (PySem.W.fnOf "__init__" "BadText.__init__" (defArgs S_BadText) (defBody S_BadText) (defScope S_BadText) .none kVBadText dcBadText pmBadText anBadText cdBadText ctBadText), slBadText⟩)
    (cIBadText : PySem.W.codeIn K cdBadText "BadText.__init__" = true)
    (kIBadText : PySem.W.keepIn K (.ref iBadText) = true)
    (noBadText : PySem.W.findIn K (.ref CBadText) "text" = some none)
    (gBadLine : PySem.W.nsIn K mainGlobals "BadLine" = some (some (.ref CBadLine)))
    (xBadLine : K.lookup CBadLine = some (excClassObj nmBadLine qBadLine CBadLine NBadLine bsBadLine tlValueError true snBadLine sbBadLine abBadLine coBadLine ddBadLine w0BadLine w1BadLine w2BadLine w3BadLine w5BadLine "ValueError.__new__"))
    (saBadLine : PySem.W.findIn K (.ref CBadLine) "__setattr__" = some (some (.builtin "object.__setattr__")))
    (gaBadLine : PySem.W.findIn K (.ref CBadLine) "__getattribute__" = some (some (.builtin "BaseException.__getattribute__")))
    (ggBadLine : PySem.W.findIn K (.ref CBadLine) "__getattr__" = some none)
    (kCBadLine : PySem.W.keepIn K (.ref CBadLine) = true)
    (caBadLine : PySem.W.findIn K (.ref CBadLine) "__class__" = some (some (.builtin "object.__class__")))
    (tyBadLine : PySem.W.typeIn K (.ref CBadLine) = some (.type "type"))
    (iCBadLine : PySem.W.findIn K (.ref CBadLine) "__init__" = some (some (.ref iBadLine)))
    (tIBadLine : PySem.W.typeIn K (.ref iBadLine) = some (.type "function"))
    (lIBadLine : K.lookup iBadLine = some ⟨ocBadLine, odBadLine, .func (PySem.W.fnOf "__init__" "BadLine.__init__" (defArgs S_BadLine) (defBody S_BadLine) (defScope S_BadLine) .none kVBadLine dcBadLine pmBadLine anBadLine cdBadLine ctBadLine), slBadLine⟩)
    (cIBadLine : PySem.W.codeIn K cdBadLine "BadLine.__init__" = true)
    (kIBadLine : PySem.W.keepIn K (.ref iBadLine) = true)
    (noBadLine : PySem.W.findIn K (.ref CBadLine) "number" = some none)
    (hsp : PySem.W.specialIn K (.builtin "object.__class__") "__get__" = some (some (.builtin "getset_descriptor.__get__")))
    (htk : PySem.W.takesIn K (.builtin "object.__class__") = some true)
    (zisinstance : PySem.W.nsIn K mainGlobals "isinstance" = some none)
    (zlist : PySem.W.nsIn K mainGlobals "list" = some none)
    (ztuple : PySem.W.nsIn K mainGlobals "tuple" = some none)
    (zlen : PySem.W.nsIn K mainGlobals "len" = some none)
    (zall : PySem.W.nsIn K mainGlobals "all" = some none)
    (zany : PySem.W.nsIn K mainGlobals "any" = some none)
    (zzip : PySem.W.nsIn K mainGlobals "zip" = some none)
    (zbool : PySem.W.nsIn K mainGlobals "bool" = some none)
    (zstr : PySem.W.nsIn K mainGlobals "str" = some none)
    (zint : PySem.W.nsIn K mainGlobals "int" = some none)
    (zabs : PySem.W.nsIn K mainGlobals "abs" = some none)
    (zmax : PySem.W.nsIn K mainGlobals "max" = some none)
    (zmin : PySem.W.nsIn K mainGlobals "min" = some none)
    (zrange : PySem.W.nsIn K mainGlobals "range" = some none)
    (zsorted : PySem.W.nsIn K mainGlobals "sorted" = some none)
    (zenumerate : PySem.W.nsIn K mainGlobals "enumerate" = some none)
    (zset : PySem.W.nsIn K mainGlobals "set" = some none)
    (zsum : PySem.W.nsIn K mainGlobals "sum" = some none)
    (zreversed : PySem.W.nsIn K mainGlobals "reversed" = some none)
    (zrepr : PySem.W.nsIn K mainGlobals "repr" = some none)
    (zdict : PySem.W.nsIn K mainGlobals "dict" = some none)
    (zValueError : PySem.W.nsIn K mainGlobals "ValueError" = some none)
    (zLookupError : PySem.W.nsIn K mainGlobals "LookupError" = some none)
    (zRuntimeError : PySem.W.nsIn K mainGlobals "RuntimeError" = some none)
    (zOverflowError : PySem.W.nsIn K mainGlobals "OverflowError" = some none)
    (zIndexError : PySem.W.nsIn K mainGlobals "IndexError" = some none)
    (zKeyError : PySem.W.nsIn K mainGlobals "KeyError" = some none)
    (zNotImplementedError : PySem.W.nsIn K mainGlobals "NotImplementedError" = some none)
    (ndC : [CBadText, CBadLine].Nodup)
    (zNOTHING : PySem.W.nsIn K mainGlobals "NOTHING" = some (some (.str "-" tNOTHING)))
    (zMOST_DIGITS : PySem.W.nsIn K mainGlobals "MOST_DIGITS" = some (some (.int 10 tMOST_DIGITS))) :
    ∃ fd : FuncData, (∀ (s : Shared) (v : Value), BindsTo s fd ⟨[v], []⟩ [("_law_script", v)]) ∧ ∀ base : Heap, K.In base → base.Ns mainGlobals mg → FnG l.prog w K mg base 7 fa fd ["_law_script"] (spT K) := by
  have e := hfa.symm.trans (PySem.W.mg_of X G a29)
  cases e
  have F0 := fun_mk (st := S_is_number) l0 c0 k0
  have m0 := PySem.W.mg_of X G a0
  have F1 := fun_mk (st := S_is_row) l1 c1 k1
  have m1 := PySem.W.mg_of X G a1
  have F2 := fun_mk (st := S_row_text) l2 c2 k2
  have m2 := PySem.W.mg_of X G a2
  have F3 := fun_mk (st := S_pairs_text) l3 c3 k3
  have m3 := PySem.W.mg_of X G a3
  have F4 := fun_mk (st := S_row_in) l4 c4 k4
  have m4 := PySem.W.mg_of X G a4
  have F5 := fun_mk (st := S_pairs_in) l5 c5 k5
  have m5 := PySem.W.mg_of X G a5
  have F6 := fun_mk (st := S_joined) l6 c6 k6
  have m6 := PySem.W.mg_of X G a6
  have F7 := fun_mk (st := S_words_in) l7 c7 k7
  have m7 := PySem.W.mg_of X G a7
  have F8 := fun_mk (st := S_is_written_number) l8 c8 k8
  have m8 := PySem.W.mg_of X G a8
  have F9 := fun_mk (st := S_is_written_pair) l9 c9 k9
  have m9 := PySem.W.mg_of X G a9
  have F10 := fun_mk (st := S_cell_at) l10 c10 k10
  have m10 := PySem.W.mg_of X G a10
  have F11 := fun_mk (st := S_box) l11 c11 k11
  have m11 := PySem.W.mg_of X G a11
  have F12 := fun_mk (st := S_take) l12 c12 k12
  have m12 := PySem.W.mg_of X G a12
  have F13 := fun_mk (st := S_of) l13 c13 k13
  have m13 := PySem.W.mg_of X G a13
  have F14 := fun_mk (st := S_same) l14 c14 k14
  have m14 := PySem.W.mg_of X G a14
  have F15 := fun_mk (st := S_strewn) l15 c15 k15
  have m15 := PySem.W.mg_of X G a15
  have F16 := fun_mk (st := S_lists) l16 c16 k16
  have m16 := PySem.W.mg_of X G a16
  have F17 := fun_mk (st := S_souls) l17 c17 k17
  have m17 := PySem.W.mg_of X G a17
  have F18 := fun_mk (st := S_crowd) l18 c18 k18
  have m18 := PySem.W.mg_of X G a18
  have F19 := fun_mk (st := S_digits) l19 c19 k19
  have m19 := PySem.W.mg_of X G a19
  have F20 := fun_mk (st := S_figures) l20 c20 k20
  have m20 := PySem.W.mg_of X G a20
  have F21 := fun_mk (st := S_sum_text) l21 c21 k21
  have m21 := PySem.W.mg_of X G a21
  have F22 := fun_mk (st := S_tour_text) l22 c22 k22
  have m22 := PySem.W.mg_of X G a22
  have F23 := fun_mk (st := S_crowd_in) l23 c23 k23
  have m23 := PySem.W.mg_of X G a23
  have F24 := fun_mk (st := S_tour_in) l24 c24 k24
  have m24 := PySem.W.mg_of X G a24
  have F25 := fun_mk (st := S_bent_text) l25 c25 k25
  have m25 := PySem.W.mg_of X G a25
  have F26 := fun_mk (st := S_told) l26 c26 k26
  have m26 := PySem.W.mg_of X G a26
  have F27 := fun_mk (st := S_due) l27 c27 k27
  have m27 := PySem.W.mg_of X G a27
  have F28 := fun_mk (st := S_right) l28 c28 k28
  have m28 := PySem.W.mg_of X G a28
  have F29 := fun_mk (st := S_law) l29 c29 k29
  have m29 := PySem.W.mg_of X G a29
  have B : Blt mg := ⟨PySem.W.mg_none_of X G zisinstance, PySem.W.mg_none_of X G zlist, PySem.W.mg_none_of X G ztuple, PySem.W.mg_none_of X G zlen, PySem.W.mg_none_of X G zall, PySem.W.mg_none_of X G zany, PySem.W.mg_none_of X G zzip, PySem.W.mg_none_of X G zbool, PySem.W.mg_none_of X G zstr, PySem.W.mg_none_of X G zint, PySem.W.mg_none_of X G zabs, PySem.W.mg_none_of X G zmax, PySem.W.mg_none_of X G zmin, PySem.W.mg_none_of X G zrange, PySem.W.mg_none_of X G zsorted, PySem.W.mg_none_of X G zenumerate, PySem.W.mg_none_of X G zset, PySem.W.mg_none_of X G zsum, PySem.W.mg_none_of X G zreversed, PySem.W.mg_none_of X G zrepr, PySem.W.mg_none_of X G zdict, PySem.W.mg_none_of X G zValueError, PySem.W.mg_none_of X G zLookupError, PySem.W.mg_none_of X G zRuntimeError, PySem.W.mg_none_of X G zOverflowError, PySem.W.mg_none_of X G zIndexError, PySem.W.mg_none_of X G zKeyError, PySem.W.mg_none_of X G zNotImplementedError⟩
  have GBadText := fun_mk (st := S_BadText) lIBadText cIBadText kIBadText
  have XBadText : Cl K CBadText 0 := cl_mk 0 xBadText saBadText gaBadText ggBadText kCBadText caBadText tyBadText hsp htk
  have GBadLine := fun_mk (st := S_BadLine) lIBadLine cIBadLine kIBadLine
  have XBadLine : Cl K CBadLine 0 := cl_mk 0 xBadLine saBadLine gaBadLine ggBadLine kCBadLine caBadLine tyBadLine hsp htk
  let c : Ad := ⟨CBadText, CBadLine⟩
  have b0 := F0.binds (ps := ["value"]) fun _ _ _ _ _ _ us hl => match us, hl with | [_], _ => rfl
  have b1 := F1.binds (ps := ["thing"]) fun _ _ _ _ _ _ us hl => match us, hl with | [_], _ => rfl
  have b2 := F2.binds (ps := ["row"]) fun _ _ _ _ _ _ us hl => match us, hl with | [_], _ => rfl
  have b3 := F3.binds (ps := ["pairs"]) fun _ _ _ _ _ _ us hl => match us, hl with | [_], _ => rfl
  have b4 := F4.binds (ps := ["text"]) fun _ _ _ _ _ _ us hl => match us, hl with | [_], _ => rfl
  have b5 := F5.binds (ps := ["text"]) fun _ _ _ _ _ _ us hl => match us, hl with | [_], _ => rfl
  have b6 := F6.binds (ps := ["words"]) fun _ _ _ _ _ _ us hl => match us, hl with | [_], _ => rfl
  have b7 := F7.binds (ps := ["text"]) fun _ _ _ _ _ _ us hl => match us, hl with | [_], _ => rfl
  have b8 := F8.binds (ps := ["word"]) fun _ _ _ _ _ _ us hl => match us, hl with | [_], _ => rfl
  have b9 := F9.binds (ps := ["part"]) fun _ _ _ _ _ _ us hl => match us, hl with | [_], _ => rfl
  have b10 := F10.binds (ps := ["_law_script", "_law_k"]) fun _ _ _ _ _ _ us hl => match us, hl with | [_, _], _ => rfl
  have b11 := F11.binds (ps := ["_law_script", "_law_k"]) fun _ _ _ _ _ _ us hl => match us, hl with | [_, _], _ => rfl
  have b12 := F12.binds (ps := ["_law_box_here", "_law_below"]) fun _ _ _ _ _ _ us hl => match us, hl with | [_, _], _ => rfl
  have b13 := F13.binds (ps := ["_law_box_here", "_law_some"]) fun _ _ _ _ _ _ us hl => match us, hl with | [_, _], _ => rfl
  have b14 := F14.binds (ps := ["_law_found", "_law_due_here"]) fun _ _ _ _ _ _ us hl => match us, hl with | [_, _], _ => rfl
  have b15 := F15.binds (ps := ["_law_box_here", "_law_some"]) fun _ _ _ _ _ _ us hl => match us, hl with | [_, _], _ => rfl
  have b16 := F16.binds (ps := ["_law_part"]) fun _ _ _ _ _ _ us hl => match us, hl with | [_], _ => rfl
  have b17 := F17.binds (ps := ["_law_box_here", "_law_count"]) fun _ _ _ _ _ _ us hl => match us, hl with | [_, _], _ => rfl
  have b18 := F18.binds (ps := ["_law_box_here", "_law_most"]) fun _ _ _ _ _ _ us hl => match us, hl with | [_, _], _ => rfl
  have b19 := F19.binds (ps := ["_law_word"]) fun _ _ _ _ _ _ us hl => match us, hl with | [_], _ => rfl
  have b20 := F20.binds (ps := ["_law_words"]) fun _ _ _ _ _ _ us hl => match us, hl with | [_], _ => rfl
  have b21 := F21.binds (ps := ["_law_some"]) fun _ _ _ _ _ _ us hl => match us, hl with | [_], _ => rfl
  have b22 := F22.binds (ps := ["_law_tour"]) fun _ _ _ _ _ _ us hl => match us, hl with | [_], _ => rfl
  have b23 := F23.binds (ps := ["_law_words"]) fun _ _ _ _ _ _ us hl => match us, hl with | [_], _ => rfl
  have b24 := F24.binds (ps := ["_law_words"]) fun _ _ _ _ _ _ us hl => match us, hl with | [_], _ => rfl
  have b25 := F25.binds (ps := ["_law_box_here", "_law_words"]) fun _ _ _ _ _ _ us hl => match us, hl with | [_, _], _ => rfl
  have b26 := F26.binds (ps := ["_law_which", "_law_words"]) fun _ _ _ _ _ _ us hl => match us, hl with | [_, _], _ => rfl
  have b27 := F27.binds (ps := ["_law_which", "_law_words"]) fun _ _ _ _ _ _ us hl => match us, hl with | [_, _], _ => rfl
  have b28 := F28.binds (ps := ["_law_box_here"]) fun _ _ _ _ _ _ us hl => match us, hl with | [_], _ => rfl
  have q2_0 := kbn_perm (ps := P_row_text) F2 ["row"] [0] fun _ _ _ _ _ _ ws hl => match ws, hl with | [_], _ => rfl
  have q3_0 := kbn_perm (ps := P_pairs_text) F3 ["pairs"] [0] fun _ _ _ _ _ _ ws hl => match ws, hl with | [_], _ => rfl
  have q4_0 := kbn_perm (ps := P_row_in) F4 ["text"] [0] fun _ _ _ _ _ _ ws hl => match ws, hl with | [_], _ => rfl
  have q5_0 := kbn_perm (ps := P_pairs_in) F5 ["text"] [0] fun _ _ _ _ _ _ ws hl => match ws, hl with | [_], _ => rfl
  have q4x_0 := kbn_perm (ps := P_row_in) F4 ["text"] [0] fun _ _ _ _ _ _ ws hl => match ws, hl with | [_], _ => rfl
  have q5x_0 := kbn_perm (ps := P_pairs_in) F5 ["text"] [0] fun _ _ _ _ _ _ ws hl => match ws, hl with | [_], _ => rfl
  refine ⟨PySem.W.fnOf "law" "law" (defArgs S_law) (defBody S_law) (defScope S_law) .none kV29 dc29 pm29 an29 cd29 ct29, fun s v => .of_eq rfl, fun base _ _ => ?_⟩
  have M : Mks l.prog w K mg base c := by
    refine ⟨?_, ?_⟩
    · exact ⟨XBadText, PySem.W.mg_of X G gBadText, noBadText, iBadText, _, iCBadText, tIBadText, iniBadText GBadText, kbn_of GBadText 2 [] (fun _ _ _ _ _ _ us ws h1 h2 => match us, ws, h1, h2 with | [_, _], [], _, _ => rfl), kbn_of GBadText 1 ["text"] (fun _ _ _ _ _ _ us ws h1 h2 => match us, ws, h1, h2 with | [_], [_], _, _ => rfl)⟩
    · exact ⟨XBadLine, PySem.W.mg_of X G gBadLine, noBadLine, iBadLine, _, iCBadLine, tIBadLine, iniBadLine GBadLine, kbn_of GBadLine 2 [] (fun _ _ _ _ _ _ us ws h1 h2 => match us, ws, h1, h2 with | [_, _], [], _, _ => rfl), kbn_of GBadLine 1 ["number"] (fun _ _ _ _ _ _ us ws h1 h2 => match us, ws, h1, h2 with | [_], [_], _, _ => rfl)⟩
  have G10 := dk_cell_at (P := l.prog) (w := w) (mg := mg) (base := base) F10  B
  have G11 := dk_box (P := l.prog) (w := w) (mg := mg) (base := base) F11 G10 b10 F10.kp m10 B
  have G12 := dk_take (P := l.prog) (w := w) (mg := mg) (base := base) F12  b12 m12 B 2
  have G13 := dk_of (P := l.prog) (w := w) (mg := mg) (base := base) F13 G12 b12 F12.kp m12 B
  have G15 := dk_strewn (P := l.prog) (w := w) (mg := mg) (base := base) F15 G12 b12 F12.kp m12 B
  have G17 := dk_souls (P := l.prog) (w := w) (mg := mg) (base := base) F17 G12 b12 F12.kp m12 G13 b13 F13.kp m13 B
  have G18 := dk_crowd (P := l.prog) (w := w) (mg := mg) (base := base) F18 G12 b12 F12.kp m12 G17 b17 F17.kp m17 G15 b15 F15.kp m15 B
  have G14 := dk_same (P := l.prog) (w := w) (mg := mg) (base := base) F14  b14 m14 B 5
  have G16 := dk_lists (P := l.prog) (w := w) (mg := mg) (base := base) F16  b16 m16 B 4
  have G0 := dk_is_number (P := l.prog) (w := w) (mg := mg) (base := base) F0  B
  have G1 := dk_is_row (P := l.prog) (w := w) (mg := mg) (base := base) F1 G0 b0 F0.kp m0 B
  have G6 := dk_joined (P := l.prog) (w := w) (mg := mg) (base := base) F6  B (PySem.W.mg_of X G zNOTHING)
  have G7 := dk_words_in (P := l.prog) (w := w) (mg := mg) (base := base) F7  B (PySem.W.mg_of X G zNOTHING)
  have G8 := dk_is_written_number (P := l.prog) (w := w) (mg := mg) (base := base) F8  B (PySem.W.mg_of X G zMOST_DIGITS)
  have G9 := dk_is_written_pair (P := l.prog) (w := w) (mg := mg) (base := base) F9 G8 b8 F8.kp m8 B
  have G2 := dk_row_text (P := l.prog) (w := w) (mg := mg) (base := base) F2 G6 b6 F6.kp m6 B
  have G3 := dk_pairs_text (P := l.prog) (w := w) (mg := mg) (base := base) F3 G6 b6 F6.kp m6 B
  have G4 := dk_row_in (P := l.prog) (w := w) (mg := mg) (base := base) F4 G7 b7 F7.kp m7 G8 b8 F8.kp m8 G1 b1 F1.kp m1 B
  have G5 := dk_pairs_in (P := l.prog) (w := w) (mg := mg) (base := base) F5 G7 b7 F7.kp m7 G9 b9 F9.kp m9 B
  have G4x := dk_row_in_x (P := l.prog) (w := w) (mg := mg) (base := base) (c := c) F4 G7 b7 F7.kp m7 G8 b8 F8.kp m8 G1 b1 F1.kp m1 B M
  have G5x := dk_pairs_in_x (P := l.prog) (w := w) (mg := mg) (base := base) (c := c) F5 G7 b7 F7.kp m7 G9 b9 F9.kp m9 B M
  have G19 := dk_digits (P := l.prog) (w := w) (mg := mg) (base := base) F19  B
  have G20 := dk_figures (P := l.prog) (w := w) (mg := mg) (base := base) F20 G19 b19 F19.kp m19 B
  have G21 := dk_sum_text (P := l.prog) (w := w) (mg := mg) (base := base) F21  B
  have G22 := dk_tour_text (P := l.prog) (w := w) (mg := mg) (base := base) F22  B
  have G23 := dk_crowd_in (P := l.prog) (w := w) (mg := mg) (base := base) F23 G20 b20 F20.kp m20 B
  have G24 := dk_tour_in (P := l.prog) (w := w) (mg := mg) (base := base) F24 G19 b19 F19.kp m19 B
  have G25 := dk_bent_text (P := l.prog) (w := w) (mg := mg) (base := base) F25 G12 b12 F12.kp m12 G13 b13 F13.kp m13 B
  have G26 := dk_told (P := l.prog) (w := w) (mg := mg) (base := base) (c := c) F26 G4x b4 F4.kp m4 q4x_0 G5x b5 F5.kp m5 q5x_0 B M
  have G27 := dk_due (P := l.prog) (w := w) (mg := mg) (base := base) F27 G23 b23 F23.kp m23 G24 b24 F24.kp m24 B
  have G28 := dk_right (P := l.prog) (w := w) (mg := mg) (base := base) (c := c) F28 G18 b18 F18.kp m18 G12 b12 F12.kp m12 G21 b21 F21.kp m21 G22 b22 F22.kp m22 G2 b2 F2.kp m2 q2_0 G3 b3 F3.kp m3 q3_0 G16 b16 F16.kp m16 G14 b14 F14.kp m14 G25 b25 F25.kp m25 G26 b26 F26.kp m26 G27 b27 F27.kp m27 G5 b5 F5.kp m5 q5_0 G4 b4 F4.kp m4 q4_0 B M
  exact FnG.imp (dk_law (c := c) F29 G11 b11 F11.kp m11 G28 b28 F28.kp m28 B M) fun vs H Q E z => spT_of (law_ok c ndC) z
theorem walk {l : PySem.W.OpenLaw} {q : Program} {loose : List Str} {XP : (Str → Option Value) → Heap → Prop} {YP : World → Heap → Prop} {d : DefRec} {K : Params → PySem.W.Frag} (hn : l.most = some 63) (hdf : d.params.defaults = [])
    (hY : ∀ (w : World) (h : Heap), YP w h → (K w.params).In h)
    (F : ∀ (w : World) (mg : Str → Option Value) (fa : Addr) (h : Heap), (K w.params).In h → h.Ns mainGlobals mg → mg d.name = some (.ref fa) →
      ∃ fd : FuncData, (∀ (s : Shared) (u : Value), BindsTo s fd ⟨[u], []⟩ [("_law_script", u)]) ∧ ∀ base : Heap, (K w.params).In base → base.Ns mainGlobals mg → FnG l.prog w (K w.params) mg base 7 fa fd ["_law_script"] (spT (K w.params))) :
    PySem.W.WalkO q loose XP YP l.row.toRowW d [] (fun f vs => PySem.call f vs) :=
  walkG (n := 63) (k := 7) (x := "_law_script") (sp := fun w => spT (K w.params)) hn (by decide) hdf ⟨rfl, by decide, by decide⟩ hY F fun _ _ a ns hl hS => ⟨a, ns, rfl, hS, fun _ _ e => e⟩
end Ov
open PySem PySem.W PyProof.Rows
set_option maxRecDepth 100000 in
set_option maxHeartbeats 0 in
theorem PySem.Challenge.cw_overlooks_k12_texts_holds : PySem.Challenge.rw_overlooks_k12_texts.Holds := by
  w_on; o_law; k_head; (case hw => w_witness2)
  k_fill
  refine Ov.walk (l := PySem.Challenge.rw_overlooks_k12_texts) rfl rfl (fun w h Y => PySem.W.kIn_of Y) ?F
  case F =>
    intro w mg fa h KX G hmg
    refine' Ov.all_mk KX G hmg ?a0 ?l0 ?c0 ?k0 ?a1 ?l1 ?c1 ?k1 ?a2 ?l2 ?c2 ?k2 ?a3 ?l3 ?c3 ?k3 ?a4 ?l4 ?c4 ?k4 ?a5 ?l5 ?c5 ?k5 ?a6 ?l6 ?c6 ?k6 ?a7 ?l7 ?c7 ?k7 ?a8 ?l8 ?c8 ?k8 ?a9 ?l9 ?c9 ?k9 ?a10 ?l10 ?c10 ?k10 ?a11 ?l11 ?c11 ?k11 ?a12 ?l12 ?c12 ?k12 ?a13 ?l13 ?c13 ?k13 ?a14 ?l14 ?c14 ?k14 ?a15 ?l15 ?c15 ?k15 ?a16 ?l16 ?c16 ?k16 ?a17 ?l17 ?c17 ?k17 ?a18 ?l18 ?c18 ?k18 ?a19 ?l19 ?c19 ?k19 ?a20 ?l20 ?c20 ?k20 ?a21 ?l21 ?c21 ?k21 ?a22 ?l22 ?c22 ?k22 ?a23 ?l23 ?c23 ?k23 ?a24 ?l24 ?c24 ?k24 ?a25 ?l25 ?c25 ?k25 ?a26 ?l26 ?c26 ?k26 ?a27 ?l27 ?c27 ?k27 ?a28 ?l28 ?c28 ?k28 ?a29 ?l29 ?c29 ?k29 ?gBadText ?xBadText ?saBadText ?gaBadText ?ggBadText ?kCBadText ?caBadText ?tyBadText ?iCBadText ?tIBadText ?lIBadText ?cIBadText ?kIBadText ?noBadText ?gBadLine ?xBadLine ?saBadLine ?gaBadLine ?ggBadLine ?kCBadLine ?caBadLine ?tyBadLine ?iCBadLine ?tIBadLine ?lIBadLine ?cIBadLine ?kIBadLine ?noBadLine ?hsp ?htk ?zisinstance ?zlist ?ztuple ?zlen ?zall ?zany ?zzip ?zbool ?zstr ?zint ?zabs ?zmax ?zmin ?zrange ?zsorted ?zenumerate ?zset ?zsum ?zreversed ?zrepr ?zdict ?zValueError ?zLookupError ?zRuntimeError ?zOverflowError ?zIndexError ?zKeyError ?zNotImplementedError ?ndC ?zNOTHING ?zMOST_DIGITS
    (case a0 => k_is)
    (case l0 => k_is)
    (case c0 => k_is)
    (case k0 => k_is)
    (case a1 => k_is)
    (case l1 => k_is)
    (case c1 => k_is)
    (case k1 => k_is)
    (case a2 => k_is)
    (case l2 => k_is)
    (case c2 => k_is)
    (case k2 => k_is)
    (case a3 => k_is)
    (case l3 => k_is)
    (case c3 => k_is)
    (case k3 => k_is)
    (case a4 => k_is)
    (case l4 => k_is)
    (case c4 => k_is)
    (case k4 => k_is)
    (case a5 => k_is)
    (case l5 => k_is)
    (case c5 => k_is)
    (case k5 => k_is)
    (case a6 => k_is)
    (case l6 => k_is)
    (case c6 => k_is)
    (case k6 => k_is)
    (case a7 => k_is)
    (case l7 => k_is)
    (case c7 => k_is)
    (case k7 => k_is)
    (case a8 => k_is)
    (case l8 => k_is)
    (case c8 => k_is)
    (case k8 => k_is)
    (case a9 => k_is)
    (case l9 => k_is)
    (case c9 => k_is)
    (case k9 => k_is)
    (case a10 => k_is)
    (case l10 => k_is)
    (case c10 => k_is)
    (case k10 => k_is)
    (case a11 => k_is)
    (case l11 => k_is)
    (case c11 => k_is)
    (case k11 => k_is)
    (case a12 => k_is)
    (case l12 => k_is)
    (case c12 => k_is)
    (case k12 => k_is)
    (case a13 => k_is)
    (case l13 => k_is)
    (case c13 => k_is)
    (case k13 => k_is)
    (case a14 => k_is)
    (case l14 => k_is)
    (case c14 => k_is)
    (case k14 => k_is)
    (case a15 => k_is)
    (case l15 => k_is)
    (case c15 => k_is)
    (case k15 => k_is)
    (case a16 => k_is)
    (case l16 => k_is)
    (case c16 => k_is)
    (case k16 => k_is)
    (case a17 => k_is)
    (case l17 => k_is)
    (case c17 => k_is)
    (case k17 => k_is)
    (case a18 => k_is)
    (case l18 => k_is)
    (case c18 => k_is)
    (case k18 => k_is)
    (case a19 => k_is)
    (case l19 => k_is)
    (case c19 => k_is)
    (case k19 => k_is)
    (case a20 => k_is)
    (case l20 => k_is)
    (case c20 => k_is)
    (case k20 => k_is)
    (case a21 => k_is)
    (case l21 => k_is)
    (case c21 => k_is)
    (case k21 => k_is)
    (case a22 => k_is)
    (case l22 => k_is)
    (case c22 => k_is)
    (case k22 => k_is)
    (case a23 => k_is)
    (case l23 => k_is)
    (case c23 => k_is)
    (case k23 => k_is)
    (case a24 => k_is)
    (case l24 => k_is)
    (case c24 => k_is)
    (case k24 => k_is)
    (case a25 => k_is)
    (case l25 => k_is)
    (case c25 => k_is)
    (case k25 => k_is)
    (case a26 => k_is)
    (case l26 => k_is)
    (case c26 => k_is)
    (case k26 => k_is)
    (case a27 => k_is)
    (case l27 => k_is)
    (case c27 => k_is)
    (case k27 => k_is)
    (case a28 => k_is)
    (case l28 => k_is)
    (case c28 => k_is)
    (case k28 => k_is)
    (case a29 => k_is)
    (case l29 => k_is)
    (case c29 => k_is)
    (case k29 => k_is)
    (case gBadText => k_is)
    (case xBadText => k_is)
    (case saBadText => k_is)
    (case gaBadText => k_is)
    (case ggBadText => k_is)
    (case kCBadText => k_is)
    (case caBadText => k_is)
    (case tyBadText => k_is)
    (case iCBadText => k_is)
    (case tIBadText => k_is)
    (case lIBadText => k_is)
    (case cIBadText => k_is)
    (case kIBadText => k_is)
    (case noBadText => k_is)
    (case gBadLine => k_is)
    (case xBadLine => k_is)
    (case saBadLine => k_is)
    (case gaBadLine => k_is)
    (case ggBadLine => k_is)
    (case kCBadLine => k_is)
    (case caBadLine => k_is)
    (case tyBadLine => k_is)
    (case iCBadLine => k_is)
    (case tIBadLine => k_is)
    (case lIBadLine => k_is)
    (case cIBadLine => k_is)
    (case kIBadLine => k_is)
    (case noBadLine => k_is)
    (case hsp => k_is)
    (case htk => k_is)
    (case zisinstance => k_is)
    (case zlist => k_is)
    (case ztuple => k_is)
    (case zlen => k_is)
    (case zall => k_is)
    (case zany => k_is)
    (case zzip => k_is)
    (case zbool => k_is)
    (case zstr => k_is)
    (case zint => k_is)
    (case zabs => k_is)
    (case zmax => k_is)
    (case zmin => k_is)
    (case zrange => k_is)
    (case zsorted => k_is)
    (case zenumerate => k_is)
    (case zset => k_is)
    (case zsum => k_is)
    (case zreversed => k_is)
    (case zrepr => k_is)
    (case zdict => k_is)
    (case zValueError => k_is)
    (case zLookupError => k_is)
    (case zRuntimeError => k_is)
    (case zOverflowError => k_is)
    (case zIndexError => k_is)
    (case zKeyError => k_is)
    (case zNotImplementedError => k_is)
    (case ndC => decide)
    (case zNOTHING => k_is)
    (case zMOST_DIGITS => k_is)
