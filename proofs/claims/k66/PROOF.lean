import PyProof.Rows.All
import Wide.All
import OpenK.AllK
import Wide.FinOn
import HandS.ForMost
import HandS.More
import HandS.IsInst
import HandS.Walk
import HandS.Zip
import HandS.Defaults
import HandS.MakeKwOnly
import HandS.ExcInit
import KE.KExcInit
import KE.KExcIs
import HandS.Evl
import HandS.Style
import HandS.CallSlots
import HandS.TryOnly
import HandS.WordsExc
import KE.KTryMore
import HandS.TupAny
import HandS.Ends
import HandS.SetFor
import HandS.TupSets
import HandS.DictComp
import HandS.Iter
import KE.KRevSl
import KE.GoesEnumKw
import KE.GoesMore
import HandS.SortInts
import PyProof.ListCopy
import PyProof.ReprLen
import PyProof.Rows.ReprOcc
import PyProof.StrLawsRepr
import HandS.Deep
import HandS.Conv
import HandS.Rev
import KE.GoesEnum
import KE.KDictZip
import PyProof.Rows.RuleDivmod
import PySem.Challenge.RW_overlooks_k66_whole_valleys_by_hand
set_option Elab.async false
set_option linter.all false
set_option maxRecDepth 100000
set_option maxHeartbeats 4000000
/-! exceptions of the program's own classes as values -/
namespace OvX
open PySem PySem.W PySem.Calls PyProof.Rows PySem.HandSPX PySem.Builtin PySem.Builtin.ObjectAttr
section
variable {M : Model} {prog : Program} {w : World} {A : Around} {E : Value → Shared → Prop} {R : Result → Shared → Prop} {h : Heap} {g : Array GenState} {d : Drawn} {t : Nat} {os : OsState}
variable {nm q : Str} {C N : Addr} {bs bm bmB : List Value} {hdct : Bool} {sn : List Str} {sub : List Value} {ab : Bool} {col : Option Bool} {dd : Option Addr} {k0 k1 k2 k3 k5 : Option Value} {B newId initId : String}
theorem newCheck (F : ExcBaseFacts B newId initId bmB) (hT : ∀ X : String, bm.contains (.type X) = bmB.contains (.type X)) {rest : List Value} {kw : List (Str × Value)} {Q : Unit → Shared → Prop}
    (hC : h.get? C = some (excClassObj nm q C N bs bm hdct sn sub ab col dd k0 k1 k2 k3 k5 newId)) (hq : Q () ⟨h, g, d, t, os⟩) : wpAny M A (checkBuiltinCall newId ⟨.ref C :: rest, kw⟩) Q E ⟨h, g, d, t, os⟩ := by
  have hB : (Value.ref C :: bm).contains (.type B) = true := by rw [List.contains_cons, hT, F.hasB, Bool.or_true]
  have hstar := F.noStar
  simp only [checkBuiltinCall, F.newKind, F.newSplit, F.newRow]
  repeat (first
    | refine wpAny_loadPart_at hC ?_
    | (refine wpAny_isSubtype_exc hC ?_; rw [hB])
    | refine wpAny_staticBase_exc hC ?_
    | refine wpAny_madeBy_exc hC ?_
    | simp only [bne_self_eq_false, Bool.false_eq_true, if_false]
    | wp_step)
  all_goals exact hq
theorem newMade (F : ExcBaseFacts B newId initId bmB) (hT : ∀ X : String, bm.contains (.type X) = bmB.contains (.type X)) {rest : List Value} {kw : List (Str × Value)}
    (hC : h.get? C = some (excClassObj nm q C N bs bm hdct sn sub ab col dd k0 k1 k2 k3 k5 newId)) (hz : rest.length ≤ sizeLine)
    (hq : R (.ok (.ret (.ref (h.objs.size + 1)))) ⟨(h.push (kdv_tup rest)).push (excO C h.objs.size), g, d, t, os⟩) :
    codeAny (model prog w) A (.builtin newId ⟨.ref C :: rest, kw⟩) R ⟨h, g, d, t, os⟩ := by
  have hE := F.ends
  have hB : (Value.ref C :: bm).contains (.type B) = true := by rw [List.contains_cons, hT, F.hasB, Bool.or_true]
  have hA : (Value.ref C :: bm).contains (.type "AttributeError") = false := by rw [List.contains_cons, hT, F.noAttr]; rfl
  have hN : (Value.ref C :: bm).contains (.type "NameError") = false := by rw [List.contains_cons, hT, F.noName]; rfl
  refine codeAny_builtinAt F.entry ?_
  unfold Builtin.«BaseException.__new__»
  refine PySem.wpAt_bind ?_
  show PySem.wpAt _ _ _ (stack >>= _) _ _ _
  refine PySem.wpAt_bind (PySem.wpAt_stack fun p below => PySem.wpAt_of_wpAny ?_)
  wp_walk
  refine PySem.wpAt_of_wpAny ?_
  rw [F.owner]
  repeat (first
    | with_reducible refine wpAny_madeHere_exc F.canon hC ?_
    | with_reducible refine wpAny_loadPart_at hC ?_
    | (with_reducible refine wpAny_isSubtype_exc hC ?_; first | rw [hB] | rw [hA] | rw [hN])
    | wp_step)
  show R _ _
  rw [Heap.size_push]
  exact hq
theorem typeCall (F : ExcBaseFacts B newId initId bmB) (hT : ∀ X : String, bm.contains (.type X) = bmB.contains (.type X)) {rest : List Value} {kw : List (Str × Value)} {fI : Addr} {Q : Fin → Shared → Prop}
    (hC : h.get? C = some (excClassObj nm q C N bs bm hdct sn sub ab col dd k0 k1 k2 k3 k5 newId))
    (hi : Looks (model prog w) h (typeLookup (.ref C) "__init__") (some (.ref fI))) (hb : ∀ self, Looks (model prog w) h (bindSpecial (.ref fI) self) (.ref fI, [self])) (hz : rest.length ≤ sizeLine)
    (hq : codeAny (model prog w) A (.call (.ref fI) ⟨.ref (h.objs.size + 1) :: rest, kw⟩)
      (fun r s' => match r with | .ok (.ret v) => v = .none ∧ Q (.done (.ret (.ref (h.objs.size + 1)))) s' | .ok _ => False | .error e => E e s')
      ⟨(h.push (kdv_tup rest)).push (excO C h.objs.size), g, d, t, os⟩) :
    wpAny (model prog w) A (Builtin.«type.__call__» ⟨.ref C :: rest, kw⟩) Q E ⟨h, g, d, t, os⟩ := by
  repeat (first
    | with_reducible refine wpAny_loadPart_at hC ?_
    | with_reducible refine wpAny_madeBy_exc hC ?_
    | wp_step)
  refine codeAny_call_builtin_code (Code.quiet_builtin _ F.quiet) (newCheck F hT hC ?_)
  refine newMade F hT hC hz ?_
  show wpAny _ _ _ _ _ _
  have k : ∀ b o, h.get? b = some o → ((h.push (kdv_tup rest)).push (excO C h.objs.size)).get? b = some o := fun b o e => Heap.get?_push_of_some _ (Heap.get?_push_of_some _ e)
  have hC1 := k _ _ hC
  have hg : ((h.push (kdv_tup rest)).push (excO C h.objs.size)).get? (h.objs.size + 1) = some (excO C h.objs.size) := by heap_get
  have hcC : (Value.ref C :: bm).contains (.ref C) = true := by simp
  have i1 := hi.keeps k
  have b1 := (hb (.ref (h.objs.size + 1))).keeps k
  unfold isInstance
  repeat (first
    | with_reducible refine wpAny_loadPart_at hg ?_
    | (with_reducible refine wpAny_isSubtype_exc hC1 ?_; rw [hcC])
    | wp_step)
  show wpAny _ _ (typeLookup (.ref C) _) _ _ _
  refine i1.at ?_
  refine wpAny_holding (wpAny_bind (b1.at ?_))
  refine wpAny_bind (wpAny_call (codeAny_mono hq fun r s' z => ?_))
  rcases r with e | (v | _ | _ | _) <;> first | exact z | exact z.elim | skip
  obtain ⟨rfl, z⟩ := z
  first
    | exact wpAny_pure (wpAny_pure z)
    | (wp_walk; exact z)
theorem typeCheck {rest : List Value} {kw : List (Str × Value)} {Q : Unit → Shared → Prop} (hC : h.get? C = some (excClassObj nm q C N bs bm hdct sn sub ab col dd k0 k1 k2 k3 k5 newId))
    (hq : Q () ⟨h, g, d, t, os⟩) : wpAny M A (checkBuiltinCall "type.__call__" ⟨.ref C :: rest, kw⟩) Q E ⟨h, g, d, t, os⟩ := by
  have f3 := tc_sub
  have hT : (⟨h, g, d, t, os⟩ : Shared).TypeIs (.ref C) "type" := ⟨_, hC, rfl⟩
  simp only [checkBuiltinCall, tc_kind, tc_split]
  repeat (any_goals (first
    | assumption
    | with_reducible refine wpAny_loadPart_at hC ?_
    | with_reducible refine wpAny_onRaise ?_
    | with_reducible refine wpAny_map ?_
    | wp_step))
  all_goals trace_state
theorem callOwn (F : ExcBaseFacts B newId initId bmB) (hT : ∀ X : String, bm.contains (.type X) = bmB.contains (.type X)) {rest : List Value} {kw : List (Str × Value)} {fI : Addr}
    (hC : h.get? C = some (excClassObj nm q C N bs bm hdct sn sub ab col dd k0 k1 k2 k3 k5 newId))
    (hi : Looks (model prog w) h (typeLookup (.ref C) "__init__") (some (.ref fI))) (hb : ∀ self, Looks (model prog w) h (bindSpecial (.ref fI) self) (.ref fI, [self])) (hz : rest.length ≤ sizeLine)
    (hq : codeAny (model prog w) (A.under (.builtin "type.__call__" ⟨.ref C :: rest, kw⟩)) (.call (.ref fI) ⟨.ref (h.objs.size + 1) :: rest, kw⟩) (InitBack (h.objs.size + 1) R)
      ⟨(h.push (kdv_tup rest)).push (excO C h.objs.size), g, d, t, os⟩) :
    codeAny (model prog w) A (.call (.ref C) ⟨rest, kw⟩) R ⟨h, g, d, t, os⟩ := by
  have f1 := tc_lookup
  have f2 := tc_bind (.ref C)
  have hTy : (⟨h, g, d, t, os⟩ : Shared).TypeIs (.ref C) "type" := ⟨_, hC, rfl⟩
  refine codeAny_of_tree ?_
  show wpAny _ _ (callAny (.ref C) _) _ _ _
  repeat (any_goals (first
    | assumption
    | with_reducible refine wpAny_loadPart_at hC ?_
    | wp_step))
  refine ⟨rfl, ?_⟩
  refine codeAny_call_builtin_at (Code.quiet_builtin _ (by decide +kernel)) entry_typeCall (typeCheck hC (typeCall F hT hC hi hb hz ?_))
  refine codeAny_mono hq fun r s' z => ?_
  rcases r with e | (v | _ | _ | _) <;> exact z
end
/-- what the written part says of an own class of exceptions -/
structure ExK (K : Frag) (C : Addr) (bmB : List Value) (newId : String) : Prop where
  over : excOver K C bmB = true
  ini : excInitIn K C bmB newId = true
  sa : findIn K (.ref C) "__setattr__" = some (some (.builtin "object.__setattr__"))
  ga : findIn K (.ref C) "__getattribute__" = some (some (.builtin "BaseException.__getattribute__"))
  gg : findIn K (.ref C) "__getattr__" = some none
  exC : subIn K (.ref C) (.type "BaseException") = some true
  hd : hasDictIn K C = true
  kC : keepIn K (.ref C) = true
  ca : findIn K (.ref C) "__class__" = some (some (.builtin "object.__class__"))
  sp : specialIn K (.builtin "object.__class__") "__get__" = some (some (.builtin "getset_descriptor.__get__"))
  tk : takesIn K (.builtin "object.__class__") = some true
  mr : mroIn K C (.type "object") = some true
section
variable {prog : Program} {w : World} {A : Around} {E : Value → Shared → Prop} {R : Result → Shared → Prop} {hp : Heap} {g : Array GenState} {d : Drawn} {t : Nat} {os : OsState} {B newId : String} {bmB : List Value} {K : Frag}
theorem firstStore (SF : StoreFacts B bmB "object.__setattr__" "object") {C x : Addr} (T : ExK K C bmB newId) {name : Str} {tk : Tok} {v : Value} {fv : Array Value} (X : K.In hp) (hx : hp.get? x = some { cls := .ref C, data := .fields fv }) (ha : findIn K (.ref C) name = some none)
    (hq : ∀ h' tk' dx, (∀ b o, b ≠ x → hp.get? b = some o → h'.get? b = some o) → hp.objs.size ≤ dx → dx ≠ x → h'.get? x = some { cls := .ref C, dict := some dx, data := .fields fv } →
      h'.Ns1 dx (fun y => if y = name then some v else none) → R (.ok (.ret .none)) ⟨h', g, d, tk', os⟩) :
    codeAny (model prog w) A (.call (.builtin "object.__setattr__") ⟨[.ref x, .str name tk, v], []⟩) R ⟨hp, g, d, t, os⟩ := by
  refine osa_openX (r := none) (s := ⟨hp, g, d, t, os⟩) SF X (ox := { cls := .ref C, data := .fields fv }) (od := none) ⟨hx, rfl, rfl, trivial⟩ T.over (by unfold takerIn; rw [ha]; rfl) (fun b => ?_)
  show wpAny _ _ (storeInOwnDict (.ref x) (.ref C) (.str name tk) name v b) _ _ _
  obtain ⟨cd, hcd, hh⟩ := any_some T.hd
  have hcls : Looks (model prog w) hp (classData C) cd := looks_clsIn X hcd
  have hxs : x ≠ hp.objs.size := Nat.ne_of_lt (Heap.lt_size hx)
  obtain ⟨nm, bs, mro, ns, qn, hdd, sn, sb, ab, col, del⟩ := cd
  dsimp only at hh
  subst hh
  unfold storeInOwnDict ownDictForStores
  repeat (first
    | with_reducible refine store_in_new ?_ ?_
    | with_reducible refine wpAny_loadPart_at hx ?_
    | with_reducible refine hcls.at ?_
    | wp_step)
  · exact ⟨_, #[], _, (Heap.get?_update_ne _ _ _ _ hxs.symm).trans (Heap.get?_push_at rfl rfl), rfl, fun e he => absurd he (by simp), fun _ => rfl⟩
  · intro h' tk' hn' hs
    have h1 : (hp.push { cls := .type "dict", data := .dict #[] }).get? x = some { cls := .ref C, data := .fields fv } := Heap.get?_push_of_some _ hx
    exact hq h' tk' hp.objs.size (fun b o hb ho => (hs.2 b (Nat.ne_of_lt (Heap.lt_size ho))).trans ((Heap.get?_update_ne _ _ _ _ hb).trans (Heap.get?_push_of_some _ ho))) (Nat.le_refl _) hxs.symm
      ((hs.2 x hxs).trans (Heap.get?_update_self _ h1 rfl)) hn'
end
end OvX
namespace Ov
open PySem L2
section
variable {X : Cx} {pins : List (Addr × Obj)} {σ : L2.St} {H : Hp} {s : Shared} {a C dx : Addr} {f : Str} {y : V} {u : Value} {fs : List (Str × V)} {B newId initId : String} {bmB : List Value}
/-- the first attribute of a new exception -/
theorem set_first {Q : Unit → Shared → Prop} {E : Value → Shared → Prop} {A : Around} (SF : PySem.StoreFacts B bmB "object.__setattr__" "object") (T : OvX.ExK X.K C bmB newId) (I : Inv X pins σ H s) (e : H a = some (exo a C none)) (hno : PySem.W.findIn X.K (.ref C) f = some none) (ry : RelV y u)
    (h : ∀ dx s', H dx = none → dx ≠ a → Inv X pins σ (upd (upd H dx (exd dx [(f, y)])) a (exo a C (some dx))) s' → Q () s') : wpAny (model X.prog X.w) A (setAttr (.ref a) f u) Q E s := by
  obtain ⟨t1, ho⟩ := exo_at I.hok e
  obtain ⟨hp, g, d, t, os⟩ := s
  refine PySem.W.set_plain I.kIn (ox := { cls := .ref C, dict := none, data := .fields #[.ref t1, .none, .none, .none, .bool false, .none] }) (od := none) ⟨ho, rfl, rfl, trivial⟩ T.sa ?_
  refine OvX.firstStore SF T I.kIn ho hno (fun h' tk' dx k dn dne hx hn => ?_)
  have hnd : H dx = none := I.hok.fresh dn
  have nd : ∀ {b : Addr} {o : Obj}, hp.get? b = some o → b ≠ dx := fun {b o} q => Nat.ne_of_lt (Nat.lt_of_lt_of_le (Heap.lt_size q) dn)
  have na : ∀ {b : Addr}, H b = none → b ≠ a := fun {b} n z => by
    rw [z, e] at n
    cases n
  have un : Un X.fs [] H (upd (upd H dx (exd dx [(f, y)])) a (exo a C (some dx))) hp h' := by
    refine ⟨fun b o q n _ _ => k b o (na n) q, fun b o q n _ _ => ⟨o.slots, k b o (na n) q⟩, fun b o q n _ => ?_, fun b o q _ => ?_, fun b xs q => ?_, fun b o v q => ?_, fun b ps q => ⟨#[], ?_⟩⟩
    · rw [upd_ne (na n), upd_ne (nd q)]
      exact n
    · by_cases hb : b = a
      · subst hb
        exact ⟨_, hx⟩
      · exact ⟨o, k b o hb q⟩
    · rw [upd_ne (at_ne e q exo_tup), upd_ne (ne_of_none q hnd)]
      exact q
    · rw [upd_ne (at_ne e q exo_frz), upd_ne (ne_of_none q hnd)]
      exact q
    · rw [upd_ne (at_ne e q exo_tbl), upd_ne (ne_of_none q hnd), q]
      simp
  refine h dx _ hnd dne (I.un (t' := tk') un fun b o q => ?_)
  by_cases hb : b = a
  · subst hb
    rw [upd_same] at q
    cases q
    exact exo_ok hx
  rw [upd_ne hb] at q
  by_cases hd : b = dx
  · subst hd
    rw [upd_same] at q
    cases q
    exact exd_ok hn (relO_put (fs := []) ry fun g => True.intro)
  rw [upd_ne hd] at q
  refine (I.hok b o q).stay (fun c v hc z => k c v ?_ z) (fun c hc => ?_) (fun c xs hc => ?_)
  · rcases hc with hc | hc
    · rw [hc]
      exact hb
    · exact at_ne e hc exo_own
  · rw [upd_ne (at_ne e hc exo_own), upd_ne (ne_of_none hc hnd)]
    exact hc
  · rw [upd_ne (at_ne e hc exo_tup), upd_ne (ne_of_none hc hnd)]
    exact hc
/-- self.f = e in an __init__ -/
def tSt1 (K : PySem.W.Frag) (bmB : List Value) (newId : String) (f : Str) (to te : TE) : TS := fun D σ H => te σ H fun y H1 => to σ H1 fun x H2 => ∃ a C : Addr, x = .ref a ∧ OvX.ExK K C bmB newId ∧ PySem.W.findIn K (.ref C) f = some none ∧
  H2 a = some (exo a C none) ∧ ∀ dx, H2 dx = none → dx ≠ a → D.nx σ (upd (upd H2 dx (exd dx [(f, y)])) a (exo a C (some dx)))
theorem ps_st1 {o e : Expr} {to te : TE} {p' pos : Pos} (SF : PySem.StoreFacts B bmB "object.__setattr__" "object") (ho : PE X o to) (he : PE X e te) (hs : swapsWith e (some (.Attribute o f p')) pos.line X.env = pure false := by rfl) :
    PS X (.Assign [.Attribute o f p'] e pos) (tSt1 X.K bmB newId f to te) := by
  refine ⟨fun pins s σ H D I h => ?_⟩
  refine plainObj_wpAny_Assign_Attribute (thn (he.run pins s σ H _ I h) fun v s1 ⟨y, H1, I1, r1, q1⟩ => thn (ho.run pins s1 σ H1 _ I1 q1) fun u s2 ⟨x, H2, I2, r2, a, C, ex, T, hno, ea, q⟩ => ?_) hs
  subst ex
  obtain rfl : u = Value.ref a := r2
  exact set_first SF T I2 ea hno r1 fun dx s' n ne J => ⟨σ, _, J, q dx n ne⟩
end
end Ov

set_option Elab.async false
set_option linter.all false
set_option maxRecDepth 100000
set_option maxHeartbeats 4000000
namespace Ov
open PySem L2
section
variable {X : Cx} {CX : CXT} {k n : Nat} {fI C : Addr} {fd : FuncData} {ps ks : List Str} {sp : Sp} {E : XK} {x : Str} {p pos : Pos} {e o : Expr} {es : List Expr} {kws : List Keyword} {t tk : TA} {te : TE} {g : List Value → List Value → List Value} {gV : List V → List V → List V} {B newId initId : String} {bmB : List Value}
theorem run_ex {pins : List (Addr × Obj)} {σ : L2.St} {H : Hp} {s : Shared} {Q : VK} {us ws : List Value} {vs zs : List V} (T : OvX.ExK X.K C bmB newId) (FB : ExcBaseFacts B newId initId bmB) (iC : PySem.W.findIn X.K (.ref C) "__init__" = some (some (.ref fI))) (tI : PySem.W.typeIn X.K (.ref fI) = some (.type "function"))
    (F1 : FnOk X.prog X.w X.K X.mg X.base CX k fI fd ps sp) (hr : Room (k + 1) X.A) (hb : KBn X.K fd ps (n + 1) ks g gV) (hx : Passes CX X E) (I : Inv X pins σ H s) (r : Vals vs us) (rz : Vals zs ws) (l1 : vs.length = n) (l2 : zs.length = ks.length) (hz : n ≤ 1000)
    (h : ∀ a, H a = none → sp (gV (.ref a :: vs) zs) (upd H a (exo a C none)) (fun v H2 => v = .non ∧ Q (.ref a) H2) E) :
    wpAny (model X.prog X.w) X.A (call (.ref C) us (ks.zip ws)) (EP X pins σ Q) X.xe s := by
  obtain ⟨nm, N, qn, bs, bm, hdct, sn, sub, ab, col, dd, k0, k1, k2, k3, k5, hC, hT⟩ := PySem.W.excInit_of I.kIn T.ini
  obtain ⟨hp, gs, dr, tk, os⟩ := s
  have hsz : hp.objs.size ≤ hp.objs.size + 1 := Nat.le_succ _
  have hq := h (hp.objs.size + 1) (I.hok.fresh hsz)
  have kk : ∀ b u, hp.get? b = some u → ((hp.push (PySem.W.kdv_tup us)).push (PySem.HandSPX.excO C hp.objs.size)).get? b = some u := fun b u q => Heap.get?_push_of_some _ (Heap.get?_push_of_some _ q)
  have hg : ((hp.push (PySem.W.kdv_tup us)).push (PySem.HandSPX.excO C hp.objs.size)).get? (hp.objs.size + 1) = some (PySem.HandSPX.excO C hp.objs.size) := by heap_get
  have I2 : Inv X pins σ (upd H (hp.objs.size + 1) (exo (hp.objs.size + 1) C none)) ⟨(hp.push (PySem.W.kdv_tup us)).push (PySem.HandSPX.excO C hp.objs.size), gs, dr, tk, os⟩ :=
    I.laid (t' := tk) (a := hp.objs.size + 1) (o := exo (hp.objs.size + 1) C none) (h' := (hp.push (PySem.W.kdv_tup us)).push (PySem.HandSPX.excO C hp.objs.size)) kk hsz (exo_ok hg)
  have r1 : Vals (V.ref (hp.objs.size + 1) :: vs) (Value.ref (hp.objs.size + 1) :: us) := .cons rfl r
  have r2 := hb.rel r1 rz
  have e1 : (Value.ref (hp.objs.size + 1) :: us).length = n + 1 := r1.length.symm.trans (congrArg Nat.succ l1)
  have e2 : ws.length = ks.length := rz.length.symm.trans l2
  have hus : us.length ≤ sizeLine := by
    rw [← r.length, l1, sizeLine_eq]
    omega
  refine wpAny_call (OvX.callOwn FB hT hC (PySem.W.looks_findIn I.kIn iC) (fun self => PySem.W.bind_fn I.kIn self tI) hus
    (codeAny_mono (F1.run _ X.stack _ _ ⟨Value.ref (hp.objs.size + 1) :: us, ks.zip ws⟩ (g (Value.ref (hp.objs.size + 1) :: us) ws) _ _ E (hr.make C us (ks.zip ws)) (I2.env0.make C us (ks.zip ws)) (hb.to _ _ ws I2.kIn e1 e2) r2 hq) fun r s' hq' => ?_))
  cases r with
  | error er => exact hx pins σ _ _ er s' I2 hq'
  | ok fl =>
    cases fl with
    | ret u =>
      obtain ⟨v, H', I3, rv, ev, q3⟩ := I2.after hq'
      subst ev
      exact ⟨rv, ⟨V.ref (hp.objs.size + 1), H', I3, rfl, q3⟩⟩
    | next => exact False.elim hq'
    | brk => exact False.elim hq'
    | cont => exact False.elim hq'
/-- a new exception: C(e, .., k = v, ..) -/
def tEx (C : Addr) (n m : Nat) (sp : Sp) (gV : List V → List V → List V) (E : XK) (t tk : TA) : TE := fun σ H Q => t σ H fun vs H1 => tk σ H1 fun zs H2 => vs.length = n ∧ zs.length = m ∧ n ≤ 1000 ∧
  ∀ a, H2 a = none → sp (gV (.ref a :: vs) zs) (upd H2 a (exo a C none)) (fun v H3 => v = .non ∧ Q (.ref a) H3) E
theorem pe_ex (T : OvX.ExK X.K C bmB newId) (FB : ExcBaseFacts B newId initId bmB) (iC : PySem.W.findIn X.K (.ref C) "__init__" = some (some (.ref fI))) (tI : PySem.W.typeIn X.K (.ref fI) = some (.type "function"))
    (F1 : FnOk X.prog X.w X.K X.mg X.base CX k fI fd ps sp) (hr : Room (k + 1) X.A) (hg : Gl X x) (hm : X.mg x = some (.ref C)) (hb : KBn X.K fd ps (n + 1) [] g gV) (hx : Passes CX X E) (ha : PA X (e :: es) t)
    (hdb : (x == ("__debug__" : Str)) = false := by decide) (he : starEach (e :: es) X.env = (false, eval e X.env) :: starEach es X.env := by rfl) (hpl : (backTo pos (starEach es X.env)).any (·.1) = false := by rfl) :
    PE X (.Call (.Name x p) (e :: es) [] pos) (tEx C n 0 sp gV E t tNil) := by
  refine ⟨fun pins s σ H Q I h => ?_⟩
  refine wpAny_Call_Name_kw (ld_glob I hg hm ?_ hdb)
  refine PySem.W.callWith_K (h₀ := X.base) I.ok.mod.kin T.kC (thn (ha.run pos pins s σ H _ I h) fun us s1 ⟨vs, H1, I1, r, q⟩ => ⟨I1.kIn, ?_⟩) he hpl
  obtain ⟨l1, l2, hz, q⟩ := q
  exact run_ex (ks := []) (zs := []) (ws := []) T FB iC tI F1 hr hb hx I1 r .nil l1 rfl hz q
/-- C() -/
theorem pe_ex0 (T : OvX.ExK X.K C bmB newId) (FB : ExcBaseFacts B newId initId bmB) (iC : PySem.W.findIn X.K (.ref C) "__init__" = some (some (.ref fI))) (tI : PySem.W.typeIn X.K (.ref fI) = some (.type "function"))
    (F1 : FnOk X.prog X.w X.K X.mg X.base CX k fI fd ps sp) (hr : Room (k + 1) X.A) (hg : Gl X x) (hm : X.mg x = some (.ref C)) (hb : KBn X.K fd ps 1 [] g gV) (hx : Passes CX X E)
    (hdb : (x == ("__debug__" : Str)) = false := by decide) : PE X (.Call (.Name x p) [] [] pos) (tEx C 0 0 sp gV E tNil tNil) := by
  refine ⟨fun pins s σ H Q I h => ?_⟩
  refine wpAny_Call_Name_kw (ld_glob I hg hm ?_ hdb)
  obtain ⟨l1, l2, hz, q⟩ := h
  exact PySem.W.callWith_K0 I.kIn T.kC (run_ex (ks := []) (zs := []) (ws := []) (vs := []) (us := []) T FB iC tI F1 hr hb hx I .nil .nil rfl rfl hz q)
/-- C(k = v, ..) -/
theorem pe_exK (T : OvX.ExK X.K C bmB newId) (FB : ExcBaseFacts B newId initId bmB) (iC : PySem.W.findIn X.K (.ref C) "__init__" = some (some (.ref fI))) (tI : PySem.W.typeIn X.K (.ref fI) = some (.type "function"))
    (F1 : FnOk X.prog X.w X.K X.mg X.base CX k fI fd ps sp) (hr : Room (k + 1) X.A) (hg : Gl X x) (hm : X.mg x = some (.ref C)) (hb : KBn X.K fd ps 1 ks g gV) (hx : Passes CX X E) (hkw : PK X kws tk)
    (hall : (backToKw pos (keywordEach kws X.env)).all (·.1.isSome) = true := by rfl) (hks : (backToKw pos (keywordEach kws X.env)).filterMap (·.1) = ks := by rfl) (hdb : (x == ("__debug__" : Str)) = false := by decide)
    (hpl : ((backTo pos (starEach [] X.env)).any (·.1) || (backToKw pos (keywordEach kws X.env)).any (·.1.isNone)) = false := by rfl) :
    PE X (.Call (.Name x p) [] kws pos) (tEx C 0 ks.length sp gV E tNil tk) := by
  refine ⟨fun pins s σ H Q I h => ?_⟩
  refine wpAny_Call_Name_kw (ld_glob I hg hm ?_ hdb)
  refine PySem.W.callWith_KW0 (h₀ := X.base) I.ok.mod.kin T.kC hall ?_ hpl
  refine thn (hkw.run pos pins s σ H _ I h) fun ws s2 ⟨zs, H2, I2, rz, l1, l2, hz, q2⟩ => ⟨I2.kIn, ?_⟩
  rw [hks]
  exact run_ex (us := []) (vs := []) T FB iC tI F1 hr hb hx I2 .nil rz rfl l2 hz q2
/-- an exception of the class at C at a, with the attributes fs -/
def Exc (K : PySem.W.Frag) (H : Hp) (a C : Addr) (fs : List (Str × V)) : Prop := ∃ bmB newId, OvX.ExK K C bmB newId ∧ ((fs = [] ∧ H a = some (exo a C none)) ∨ ∃ dx, H a = some (exo a C (some dx)) ∧ H dx = some (exd dx fs))
theorem Exc.same {K : PySem.W.Frag} {H H' : Hp} {a C : Addr} {fs : List (Str × V)} (h : Exc K H a C fs) (s : Same H H') : Exc K H' a C fs := by
  obtain ⟨b, m, T, h⟩ := h
  rcases h with ⟨e, h⟩ | ⟨dx, h1, h2⟩
  · exact ⟨b, m, T, .inl ⟨e, s _ _ h⟩⟩
  · exact ⟨b, m, T, .inr ⟨dx, s _ _ h1, s _ _ h2⟩⟩
/-- e.f -/
def tExf (K : PySem.W.Frag) (f : Str) (te : TE) : TE := fun σ H Q => te σ H fun x H1 => ∃ (a C : Addr) (fs : List (Str × V)) (v : V), x = .ref a ∧ Exc K H1 a C fs ∧ PySem.W.findIn K (.ref C) f = some none ∧ fs.lookup f = some v ∧ Q v H1
theorem pe_exf {f : Str} (he : PE X e te) (hb : attributeBase e f X.env (eval e X.env) = eval e X.env := by rfl) : PE X (.Attribute e f pos) (tExf X.K f te) := by
  refine ⟨fun pins s σ H Q I h => ?_⟩
  refine attr_of hb (thn (he.run pins s σ H _ I h) fun u s1 hh => ?_)
  obtain ⟨y, H1, I1, rx, a, C, fs, v, ex, ⟨bmB, newId, T, hE⟩, hno, l, q⟩ := hh
  subst ex
  obtain rfl : u = Value.ref a := rx
  rcases hE with ⟨rfl, _⟩ | ⟨dx, h1, h2⟩
  · cases l
  obtain ⟨t1, ho⟩ := exo_at I1.hok h1
  obtain ⟨mA, hns, rel⟩ := exd_at I1.hok h2
  obtain ⟨od, hod, hl⟩ := lookIn_ns hns
  obtain ⟨u, hu, ru⟩ := RelO.some_of (v := v) (o := mA f) (by rw [← l]; exact rel f)
  have J : PySem.W.InstAt s1.heap a { cls := .ref C, dict := some dx, data := .fields #[.ref t1, .none, .none, .none, .bool false, .none] } C (some od) := ⟨ho, rfl, rfl, hod⟩
  exact HandSPX.exc_get I1.kIn J T.ga T.gg T.exC (PySem.W.findObj_own T.hd hno rfl (by rw [hl, hu])) (handed_of ru) ⟨v, H1, I1.tok _, ru, q⟩
/-- what isinstance asks of it -/
theorem exc_kit {pins : List (Addr × Obj)} {σ : L2.St} {H : Hp} {s : Shared} {a : Addr} {fs : List (Str × V)} (I : Inv X pins σ H s) (h : Exc X.K H a C fs) : ∃ P : Heap → Prop, PySem.W.KitX X.K (.ref a) (.ref C) P ∧ P s.heap := by
  obtain ⟨bmB, newId, T, hE⟩ := h
  obtain ⟨cd, hcd, _⟩ := PySem.W.any_some T.hd
  have hs : (PySem.W.clsIn X.K C).isSome = true := by rw [hcd]; rfl
  rcases hE with ⟨_, h1⟩ | ⟨dx, h1, h2⟩
  · obtain ⟨t1, ho⟩ := exo_at I.hok h1
    exact ⟨_, PySem.W.kitx_exc hs T.ga T.gg T.exC T.ca T.sp T.tk T.mr, show PySem.W.InstAt s.heap a _ C none from ⟨ho, rfl, rfl, trivial⟩⟩
  · obtain ⟨t1, ho⟩ := exo_at I.hok h1
    obtain ⟨mA, hns, rel⟩ := exd_at I.hok h2
    obtain ⟨od, hod, hl⟩ := lookIn_ns hns
    exact ⟨_, PySem.W.kitx_exc hs T.ga T.gg T.exC T.ca T.sp T.tk T.mr, show PySem.W.InstAt s.heap a _ C (some od) from ⟨ho, rfl, rfl, hod⟩⟩
/-- isinstance(e, c) -/
def rIsX (K : PySem.W.Frag) : List V → Hp → VK → Prop := fun xs H Q => ∃ (a C : Addr) (fs : List (Str × V)) (c : V) (u : Value) (b : Bool), xs = [.ref a, c] ∧ ClsV c u ∧ Exc K H a C fs ∧ PySem.W.kitOne K (.ref C) u = some b ∧ Q (.bl b) H
theorem call_isX : CallR X (.builtin "isinstance") (rIsX X.K) := by
  intro pins s σ H xs us Q I r h
  obtain ⟨a, C, fs, c, u, b, rfl, k, ex, e, q⟩ := h
  obtain ⟨u1, u2, rfl, r1, r2⟩ := vals2 r
  have e2 := k.eq r2
  subst e2
  obtain rfl : u1 = Value.ref a := r1
  obtain ⟨P, Z, p⟩ := exc_kit I ex
  exact PySem.W.kia_one Z I.kIn p e (fun z => nomatch z) fun tk => ⟨.bl b, H, I.tok tk, rfl, q⟩
/-- isinstance(e, (c1, c2, ..)) -/
def rIsXT (K : PySem.W.Frag) : List V → Hp → VK → Prop := fun xs H Q => ∃ (a C : Addr) (fs : List (Str × V)) (tp : Addr) (cs : List V) (us : List Value) (b : Bool), xs = [.ref a, .ref tp] ∧ H tp = some (.tup cs) ∧ Paired ClsV cs us ∧ Exc K H a C fs ∧ PySem.W.kitAny K (.ref C) us = some b ∧ Q (.bl b) H
theorem call_isXT : CallR X (.builtin "isinstance") (rIsXT X.K) := by
  intro pins s σ H xs us Q I r h
  obtain ⟨a, C, fs, tp, cs, ws, b, rfl, hT, k, ex, e, q⟩ := h
  obtain ⟨u1, u2, rfl, r1, r2⟩ := vals2 r
  obtain rfl : u2 = Value.ref tp := r2
  obtain rfl : u1 = Value.ref a := r1
  obtain ⟨P, Z, p⟩ := exc_kit I ex
  obtain ⟨_, its, rv, o, h1, h2, n, h3⟩ := (show ObjOk X.prog X.w H s.heap tp (.tup cs) from I.hok tp _ hT)
  have e3 := ClsV.all k rv
  subst e3
  obtain ⟨oc, od, dt, sl⟩ := o
  simp only at h2 h3
  subst h2 h3
  exact PySem.W.kia_tup Z I.kIn p h1 e (fun z => nomatch z) fun tk => ⟨.bl b, H, I.tok tk, rfl, q⟩
end
end Ov

set_option Elab.async false
set_option linter.all false
set_option maxRecDepth 100000
set_option maxHeartbeats 4000000
namespace Ov
open PySem L2
/-! heaps -/
def SameB (p : Addr) (H H' : Hp) : Prop := ∀ b o, b ≠ p → H b = some o → H' b = some o
theorem SameB.refl (p : Addr) (H : Hp) : SameB p H H := fun _ _ _ h => h
theorem SameB.trans {p : Addr} {H H1 H2 : Hp} (a : SameB p H H1) (b : SameB p H1 H2) : SameB p H H2 := fun c o n h => b c o n (a c o n h)
theorem SameB.of {p : Addr} {H H' : Hp} (a : Same H H') : SameB p H H' := fun c o _ h => a c o h
theorem SameB.upd {p : Addr} {H : Hp} (o : HO) : SameB p H (upd H p o) := fun b u n h => by rw [upd_ne n]; exact h
theorem same_new {H : Hp} {p : Addr} (h : H p = none) (o : HO) : Same H (upd H p o) := fun b u q => by rw [upd_ne (ne_of_none q h)]; exact q
def Bx (H : Hp) (p : Addr) (n : Int) : Prop := ∃ b0 b1 b2 : Int, H p = some (.lst [.int b0, .int b1, .int b2]) ∧ 0 ≤ b0 ∧ 0 ≤ b1 ∧ b1 < 2 ^ 62 ∧ 0 ≤ b2 ∧ b2 ≤ n
theorem Bx.mono {H : Hp} {p : Addr} {n m : Int} (h : Bx H p n) (e : n ≤ m) : Bx H p m := by
  obtain ⟨b0, b1, b2, h1, h2, h3, h4, h5, h6⟩ := h
  exact ⟨b0, b1, b2, h1, h2, h3, h4, h5, by omega⟩
theorem Bx.same {H H' : Hp} {p : Addr} {n : Int} (h : Bx H p n) (e : Same H H') : Bx H' p n := by
  obtain ⟨b0, b1, b2, h1, h2⟩ := h
  exact ⟨b0, b1, b2, e _ _ h1, h2⟩
theorem small {n : Nat} (h : n ≤ 1000) : n ≤ sizeLine := Nat.le_of_lt (small1000 h)
theorem flag64 (b : Bool) : -(2 ^ 64) < (if b = true then (1 : Int) else 0) ∧ (if b = true then (1 : Int) else 0) < 2 ^ 64 := by
  cases b <;> decide
theorem Bx.upd {H : Hp} {p : Addr} {b0 b1 b2 n : Int} (p0 : 0 ≤ b0) (p1 : 0 ≤ b1) (p1' : b1 < 2 ^ 62) (p2 : 0 ≤ b2) (p2' : b2 ≤ n) : Bx (upd H p (.lst [.int b0, .int b1, .int b2])) p n := ⟨b0, b1, b2, upd_same, p0, p1, p1', p2, p2'⟩
theorem fac7 (x : Int) : -(2 ^ 64) < x % 40009 + 7 ∧ x % 40009 + 7 < 2 ^ 64 := by omega
theorem back_none {H H' : Hp} (s : Same H H') {p : Addr} (h : H' p = none) : H p = none := by
  cases e : H p with
  | none => rfl
  | some o =>
    rw [s _ _ e] at h
    cases h
theorem fresh_of {H H1 : Hp} {p : Addr} {o : HO} (e : upd H p o = H1) (hp : H p = none) : Same H H1 ∧ H1 p = some o := by
  subst e
  exact ⟨same_new hp o, upd_same⟩
theorem mut_of {H H1 : Hp} {p : Addr} {o : HO} (e : upd H p o = H1) : SameB p H H1 ∧ H1 p = some o := by
  subst e
  exact ⟨SameB.upd o, upd_same⟩
theorem same_mut {H H1 H2 : Hp} {p : Addr} (a : Same H H1) (hp : H p = none) (b : SameB p H1 H2) : Same H H2 := fun c o h => b c o (ne_of_none h hp) (a c o h)
theorem same_refl (H : Hp) : Same H H := fun _ _ h => h
theorem smallB {n : Nat} (h : Nat.ble n 1000 = true) : n ≤ sizeLine := small (Nat.le_of_ble_eq_true h)
theorem smallC {n : Nat} (h : Nat.ble n 1000 = true) : n < sizeLine := small1000 (Nat.le_of_ble_eq_true h)
theorem lookup_one (f : Str) (v : V) : List.lookup f [(f, v)] = some v := by simp [List.lookup]
theorem atI_ref {as : List Addr} {i : Nat} {a : Addr} (h : as[i]? = some a) : atI (as.map V.ref) (i : Int) = some (.ref a) := atI_nat (by rw [List.getElem?_map, h]; rfl)
theorem Exc.mut {K : PySem.W.Frag} {H H' : Hp} {a C p : Addr} {fs : List (Str × V)} {xs : List V} (h : Exc K H a C fs) (hp : H p = some (.lst xs)) (s : SameB p H H') : Exc K H' a C fs := by
  obtain ⟨b, m, T, h⟩ := h
  have n1 : ∀ q d, exo q C d ≠ .lst xs := fun q d z => by
    have z' : HO.ext _ = HO.lst xs := z
    cases z'
  rcases h with ⟨e, h⟩ | ⟨dx, h1, h2⟩
  · exact ⟨b, m, T, .inl ⟨e, s _ _ (fun z => by rw [z, hp] at h; exact n1 _ _ (Option.some.inj h).symm) h⟩⟩
  · refine ⟨b, m, T, .inr ⟨dx, s _ _ (fun z => by rw [z, hp] at h1; exact n1 _ _ (Option.some.inj h1).symm) h1, s _ _ (fun z => ?_) h2⟩⟩
    rw [z, hp] at h2
    have z' : HO.lst xs = HO.ext _ := Option.some.inj h2
    cases z'
/-! values that are the same data, of depth below n -/
def flat : V → Bool
  | .non | .bl _ | .int _ | .str _ => true
  | _ => false
def Sm (K : PySem.W.Frag) : Nat → Hp → V → V → Prop
  | 0, _, _, _ => False
  | n + 1, H, x, y => (x = y ∧ flat x = true) ∨ (∃ (a b : Addr) (xs ys : List V), x = .ref a ∧ y = .ref b ∧ ((SqL K H a xs ∧ SqL K H b ys) ∨ (SqT K H a xs ∧ SqT K H b ys)) ∧ xs.length = ys.length ∧ xs.length ≤ 1000 ∧
      ∀ (i : Nat) (u v : V), xs[i]? = some u → ys[i]? = some v → Sm K n H u v)
theorem seqT {K : PySem.W.Frag} {H H' : Hp} {a : Addr} {xs : List V} (e : Same H H') (h : SqT K H a xs) : SqT K H' a xs := by
  rcases h with (h | ⟨o, h⟩) | h
  · exact .inl (.inl (e _ _ h))
  · exact .inl (.inr ⟨o, e _ _ h⟩)
  · exact .inr h
theorem Sm.same {K : PySem.W.Frag} {H H' : Hp} (e : Same H H') : ∀ {n : Nat} {x y : V}, Sm K n H x y → Sm K n H' x y := by
  intro n
  induction n with
  | zero => intro x y h; exact h
  | succ n ih =>
    intro x y h
    unfold Sm at h ⊢
    rcases h with h | ⟨a, b, xs, ys, h1, h2, h3, h4, h5, h6⟩
    · exact .inl h
    · exact .inr ⟨a, b, xs, ys, h1, h2, h3.imp (fun z => ⟨e.seq z.1, e.seq z.2⟩) (fun z => ⟨seqT e z.1, seqT e z.2⟩), h4, h5, fun i u v p q => ih (h6 i u v p q)⟩
theorem walk_zipT {K : PySem.W.Frag} {a b : Addr} {xs ys : List V} {n : Nat} (hn : n = min xs.length ys.length) : Walk (RZ.ItzT K a b) n (fun H => SqT K H a xs ∧ SqT K H b ys) (YPair (fun i => xs[i]?) (fun i => ys[i]?)) := by
  subst hn
  refine ⟨fun i H hi q => ?_, fun H q => ⟨xs, ys, q.1, q.2, by omega⟩, fun i H x H' hi q y => ?_⟩
  · have h1 : i < xs.length := by omega
    have h2 : i < ys.length := by omega
    exact ⟨xs, ys, xs[i], ys[i], q.1, q.2, List.getElem?_eq_getElem h1, List.getElem?_eq_getElem h2⟩
  · obtain ⟨T, u, v, e1, e2, e3, e4, e5⟩ := y
    exact ⟨T, u, v, e1, e2, e3, e4 _ q.1, e5 _ q.2⟩
theorem tyL {K : PySem.W.Frag} {H : Hp} {a : Addr} {xs : List V} (h : SqL K H a xs) : TyX K H (.ref a) (.type "list") := by
  rcases h with (h | ⟨o, h⟩) | ⟨o, its, n, h1, h2, _⟩
  · exact .base (.lst h)
  · exact .base (.frz h)
  · exact .kList h1 h2
theorem tyT {K : PySem.W.Frag} {H : Hp} {a : Addr} {xs : List V} (h : SqT K H a xs) : TyX K H (.ref a) (.type "tuple") := by
  rcases h with (h | ⟨o, h⟩) | ⟨o, its, n, h1, h2, _⟩
  · exact .base (.tup h)
  · exact .fTuple h
  · exact .kTuple h1 h2
theorem iteC {c : Bool} {A B : Prop} (h : c = true) (a : A) : if c = true then A else B := by rw [h]; exact iteT a
theorem iteD {c : Bool} {A B : Prop} (h : c = false) (b : B) : if c = true then A else B := by rw [h]; exact iteF b
theorem kit2 {K : PySem.W.Frag} {a b c : String} {r1 r2 : Bool} (h1 : kitB a b = some r1) (h2 : kitB a c = some r2) : PySem.W.kitAny K (.type a) [.type b, .type c] = some (r1 || r2) :=
  kitAny_cons (kit_ty h1) (fun e => by subst e; exact kitAny_cons (kit_ty h2) (fun e => by subst e; exact kitAny_nil) (fun e => by subst e; rfl)) (fun e => by subst e; rfl)
/-! list.count of flat items -/
theorem countP_eqU {x : V} : ∀ {xs : List V} {us : List Value}, Vals xs us → xs.all flatV = true → us.countP (eqU x) = xs.countP fun y => eqV y x
  | _, _, .nil, _ => rfl
  | y :: xs, u :: us, .cons r t, f => by
    rw [List.all_cons, Bool.and_eq_true] at f
    rw [List.countP_cons, List.countP_cons, eqU_of r f.1, countP_eqU t f.2]
def rCntF (K : PySem.W.Frag) : V → List V → Hp → VK → Prop := fun x vs H Q => ∃ (p : Addr) (xs : List V) (y : V), x = .ref p ∧ vs = [y] ∧ SqL K H p xs ∧ flatV y = true ∧ xs.all flatV = true ∧ Q (.int ((xs.countP fun z => eqV z y : Nat) : Int)) H
theorem mt_cntF {X : Cx} : MtR X "list.count" (rCntF X.K) := by
  intro pins s σ H x vs v us Q I rx rxs h
  obtain ⟨p, xs, y, rfl, rfl, hs, fy, fx, q⟩ := h
  cases rx
  obtain ⟨u, rfl, ru⟩ := rxs.one
  obtain ⟨its, rv, ⟨⟨cls, dd, data, sl⟩, n, ho, hc, hdn, hd⟩, hlen⟩ := I.list hs
  simp only at hc hd
  subst hc hd
  refine call_meets PySem.F.slot_list_count ⟨_, ho, rfl⟩ PySem.F.entry_list_count (PySem.F.args_list_count_2 _ _)
    (SeqAt.list_countAt p its.toArray n dd sl u (eqU y)) ⟨ho, fun z hz => mem_eqAt ru fy rv fx z (by simpa using hz), ?_⟩
  refine ⟨.int ((xs.countP fun z => eqV z y : Nat) : Int), H, I.tok _, ⟨s.toks, ?_⟩, q⟩
  show Value.int ((its.toArray.toList.countP (eqU y) : Nat) : Int) s.toks = _
  rw [show its.toArray.toList = its by simp, countP_eqU rv fx]
/-- built-in names that the module does not bind -/
structure Blt (mg : Str → Option Value) : Prop where
  isinstance : mg "isinstance" = none
  list : mg "list" = none
  tuple : mg "tuple" = none
  len : mg "len" = none
  all : mg "all" = none
  any : mg "any" = none
  zip : mg "zip" = none
  bool : mg "bool" = none
  str : mg "str" = none
  int : mg "int" = none
  abs : mg "abs" = none
  max : mg "max" = none
  min : mg "min" = none
  range : mg "range" = none
  sorted : mg "sorted" = none
  enumerate : mg "enumerate" = none
  set : mg "set" = none
  sum : mg "sum" = none
  reversed : mg "reversed" = none
  repr : mg "repr" = none
  dict : mg "dict" = none
  ValueError : mg "ValueError" = none
  LookupError : mg "LookupError" = none
  RuntimeError : mg "RuntimeError" = none
  OverflowError : mg "OverflowError" = none
  IndexError : mg "IndexError" = none
  KeyError : mg "KeyError" = none
  NotImplementedError : mg "NotImplementedError" = none
end Ov

set_option Elab.async false
set_option linter.all false
set_option maxRecDepth 100000
set_option maxHeartbeats 4000000
namespace Ov
open PySem L2
/-! lists, numbers -/
theorem erase_int : ∀ (l : List Int) (j : Nat), (l.map V.int).eraseIdx j = (l.eraseIdx j).map V.int
  | [], j => by simp
  | a :: r, 0 => by simp
  | a :: r, j + 1 => by
    rw [List.map_cons, List.eraseIdx_cons_succ, List.eraseIdx_cons_succ, List.map_cons, erase_int r j]
theorem erase_perm : ∀ (l : List Int) (j : Nat) (y : Int), l[j]? = some y → (y :: l.eraseIdx j).Perm l
  | [], j, y, h => by simp at h
  | a :: r, 0, y, h => by
    simp at h
    subst h
    exact List.Perm.refl _
  | a :: r, j + 1, y, h => by
    rw [List.getElem?_cons_succ] at h
    rw [List.eraseIdx_cons_succ]
    exact (List.Perm.swap a y _).trans ((erase_perm r j y h).cons a)
theorem sub_len : ∀ (l ks : List Int), l.Nodup → (∀ x ∈ l, x ∈ ks) → l.length ≤ ks.length
  | [], ks, _, _ => Nat.zero_le _
  | a :: r, ks, nd, h => by
    have ha := h a (List.mem_cons_self ..)
    have nd2 := List.nodup_cons.mp nd
    have ih := sub_len r (ks.erase a) nd2.2 fun x hx => (List.mem_erase_of_ne (fun e : x = a => nd2.1 (e ▸ hx))).mpr (h x (List.mem_cons_of_mem _ hx))
    have e := List.length_erase_of_mem ha
    have p : 0 < ks.length := List.length_pos_of_mem ha
    rw [List.length_cons]
    omega
theorem emod_ne {a M : Int} {i j : Nat} (hM : (j : Int) < M) (hij : i < j) : (a + i) % M ≠ (a + j) % M := fun e => by
  have h1 : ((a + j) - (a + i)) % M = 0 := Int.emod_eq_emod_iff_emod_sub_eq_zero.mp e.symm
  have h2 : (a + j) - (a + i) = (j : Int) - i := by omega
  rw [h2, Int.emod_eq_of_lt (by omega) (by omega)] at h1
  omega
/-- among k + 1 steps round the M numbers one is free -/
theorem free_step (ks : List Int) (a M : Int) (hM : (ks.length : Int) < M) : ∃ m : Nat, (a + m) % M + 1 ∉ ks := by
  refine Classical.byContradiction fun no => ?_
  have all : ∀ m : Nat, (a + m) % M + 1 ∈ ks := fun m => Classical.byContradiction fun h => no ⟨m, h⟩
  have nd : ((List.range (ks.length + 1)).map fun m : Nat => (a + m) % M + 1).Nodup := by
    refine List.pairwise_map.mpr ?_
    refine List.Pairwise.imp_of_mem ?_ List.pairwise_lt_range
    intro i j hi hj hij e
    have hj' := List.mem_range.mp hj
    exact emod_ne (a := a) (M := M) (by omega) hij (by omega)
  have h := sub_len _ ks nd fun x hx => by
    obtain ⟨m, _, rfl⟩ := List.mem_map.mp hx
    exact all m
  rw [List.length_map, List.length_range] at h
  omega
theorem step_mod {x M : Int} (hM : 0 < M) : ((x % M + 1) % M) + 1 = (x + 1) % M + 1 := by
  rw [Int.emod_add_emod]
/-! ints as data -/
def dInts (ns : List Int) : PyData := .list (ns.map .int)
theorem dpAll_ints {K : PySem.W.Frag} {H : Hp} : ∀ ns : List Int, DpAll K H (ns.map V.int) (ns.map PyData.int)
  | [] => .nil
  | n :: r => .cons (.int n) (dpAll_ints r)
theorem dp_ints {K : PySem.W.Frag} {H : Hp} {p : Addr} {ns : List Int} (h : SqL K H p (ns.map V.int)) : Dp K H (.ref p) (dInts ns) := .lst h (dpAll_ints ns)
theorem dp_intsT {K : PySem.W.Frag} {H : Hp} {p : Addr} {ns : List Int} (h : SqT K H p (ns.map V.int)) : Dp K H (.ref p) (.tuple (ns.map .int)) := .tup h (dpAll_ints ns)
theorem lay_ints : ∀ ns : List Int, PyData.canLayAll0 (ns.map PyData.int) = true
  | [] => rfl
  | n :: r => by
    show (PyData.canLay0 (.int n) && PyData.canLayAll0 (r.map PyData.int)) = true
    rw [lay_ints r]
    rfl
theorem depth_ints : ∀ ns : List Int, PyData.depthAll (ns.map PyData.int) ≤ 1
  | [] => Nat.zero_le _
  | n :: r => by
    have ih := depth_ints r
    show max (PyData.depth (.int n)) (PyData.depthAll (r.map PyData.int)) ≤ 1
    have e : PyData.depth (.int n) ≤ 1 := by
      first
        | exact Nat.zero_le _
        | exact Nat.le_refl _
    omega
theorem sh_ints (ns : List Int) : SeqAt.shaped (dInts ns) = true := by
  unfold SeqAt.shaped
  have h1 : PyData.canLay0 (dInts ns) = true := lay_ints ns
  have h2 : PyData.depth (dInts ns) ≤ 64 := by
    have := depth_ints ns
    show PyData.depthAll (ns.map PyData.int) + 1 ≤ 64
    omega
  rw [h1, decide_eq_true h2]
  rfl
theorem sh_intsT (ns : List Int) : SeqAt.shaped (.tuple (ns.map .int)) = true := by
  unfold SeqAt.shaped
  have h1 : PyData.canLay0 (.tuple (ns.map .int)) = true := lay_ints ns
  have h2 : PyData.depth (.tuple (ns.map .int)) ≤ 64 := by
    have := depth_ints ns
    show PyData.depthAll (ns.map PyData.int) + 1 ≤ 64
    omega
  rw [h1, decide_eq_true h2]
  rfl
theorem eqv_nil (ns : List Int) : PyData.eqv (dInts ns) (.list []) = ns.isEmpty := by
  cases ns with
  | nil => rfl
  | cons n r => rfl
theorem eqv_ints : ∀ ns ms : List Int, PyData.eqv (dInts ns) (dInts ms) = decide (ns = ms)
  | [], [] => rfl
  | [], m :: r => by rw [decide_eq_false (by simp)]; rfl
  | n :: r, [] => by rw [decide_eq_false (by simp)]; rfl
  | n :: r, m :: q => by
    have ih := eqv_ints r q
    have e : PyData.eqv (dInts (n :: r)) (dInts (m :: q)) = (PyData.eqv (.int n) (.int m) && PyData.eqv (dInts r) (dInts q)) := by
      simp [dInts, PyData.eqv, PyData.eqvAll]
    rw [e, ih]
    by_cases h : n = m
    · subst h
      simp [PyData.eqv]
    · have e2 : PyData.eqv (.int n) (.int m) = false := by simp [PyData.eqv, h]
      rw [e2, decide_eq_false (show ¬ (n :: r = m :: q) from fun z => h (List.cons.inj z).1)]
      rfl
/-! dicts of numbers, all True -/
def kvs (ks : List Int) : List (Key × V) := ks.map fun k => (Sum.inl k, .bl true)
theorem kvs_keys (ks : List Int) : (kvs ks).map (·.1) = ks.map Sum.inl := by
  unfold kvs
  rw [List.map_map]
  rfl
theorem kvs_val (ks : List Int) (k : Int) : (valV (kvs ks) (Sum.inl k)).isSome = decide (k ∈ ks) := by
  rw [← valV_any]
  unfold kvs
  rw [List.any_map]
  by_cases h : k ∈ ks
  · rw [decide_eq_true h]
    exact List.any_eq_true.mpr ⟨k, h, decide_eq_true rfl⟩
  · rw [decide_eq_false h]
    refine List.any_eq_false.mpr fun x hx e => h ?_
    have e2 : (Sum.inl x : Key) = Sum.inl k := of_decide_eq_true e
    cases e2
    exact hx
theorem kvs_put {ks : List Int} {k : Int} (h : k ∉ ks) : putK (kvs ks) (Sum.inl k) (.bl true) = kvs (ks ++ [k]) := by
  have e : valV (kvs ks) (Sum.inl k) = none := by
    have z := kvs_val ks k
    rw [decide_eq_false h] at z
    cases q : valV (kvs ks) (Sum.inl k) with
    | none => rfl
    | some v => rw [q] at z; cases z
  rw [putK_new _ e]
  unfold kvs
  rw [List.map_append]
  rfl
theorem sort_lt : ∀ {l : List Int}, l.Pairwise (· ≤ ·) → l.Nodup → l.Pairwise (· < ·)
  | [], _, _ => .nil
  | a :: r, h, n => by
    have h' := List.pairwise_cons.mp h
    have n' := List.nodup_cons.mp n
    refine List.pairwise_cons.mpr ⟨fun b hb => ?_, sort_lt h'.2 n'.2⟩
    have := h'.1 b hb
    have ne : a ≠ b := fun e => n'.1 (e ▸ hb)
    omega
theorem sqL_sameB {K : PySem.W.Frag} {H H' : Hp} {p a : Addr} {xs : List V} (h : SqL K H a xs) (n : a ≠ p) (s : SameB p H H') : SqL K H' a xs := by
  rcases h with (h | ⟨o, h⟩) | h
  · exact .inl (.inl (s _ _ n h))
  · exact .inl (.inr ⟨o, s _ _ n h⟩)
  · exact .inr h
theorem sqT_sameB {K : PySem.W.Frag} {H H' : Hp} {p a : Addr} {xs : List V} (h : SqT K H a xs) (n : a ≠ p) (s : SameB p H H') : SqT K H' a xs := by
  rcases h with (h | ⟨o, h⟩) | h
  · exact .inl (.inl (s _ _ n h))
  · exact .inl (.inr ⟨o, s _ _ n h⟩)
  · exact .inr h
theorem seq_ix {v : Int} {n : Nat} (h0 : 0 ≤ v) (h1 : v < n) : seqIndex? v n = some v.toNat := by
  unfold seqIndex?
  simp only [show ¬ v < 0 by omega, if_false]
  first
    | rw [if_pos (by omega)]
    | rw [if_neg (by omega)]
    | (rw [if_pos (by simp; omega)])
    | (rw [if_neg (by simp; omega)])
end Ov

set_option Elab.async false
set_option linter.all false
set_option maxRecDepth 100000
set_option maxHeartbeats 4000000
namespace OvX
open PySem PySem.W PySem.Calls PyProof.Rows PySem.HandSPX
/-! a tuple of classes in an except clause -/
theorem forIn_pass {M : Model} {A : Around} {E : Value → Shared → Prop} {β : Type} {b : β} {f : Value → β → Sem (ForInStep β)} {s : Shared} {Q : β → Shared → Prop} :
    ∀ {cs : List Value}, (∀ c ∈ cs, ∀ Q' : ForInStep β → Shared → Prop, Q' (.yield b) s → wpAny M A (f c b) Q' E s) → Q b s → wpAny M A (forIn cs b f) Q E s
  | [], _, q => by
    rw [List.forIn_nil]
    exact wpAny_pure q
  | c :: r, h, q => by
    rw [List.forIn_cons]
    refine wpAny_bind (h c (List.mem_cons_self ..) _ ?_)
    exact forIn_pass (cs := r) (fun c' hc => h c' (List.mem_cons_of_mem _ hc)) q
theorem forIn_seek {M : Model} {A : Around} {E : Value → Shared → Prop} {β : Type} {b d : β} {f : Value → β → Sem (ForInStep β)} {t : Value → Bool} {s : Shared} {Q : β → Shared → Prop} :
    ∀ {cs : List Value}, (∀ c ∈ cs, ∀ Q' : ForInStep β → Shared → Prop, Q' (if t c = true then .done d else .yield b) s → wpAny M A (f c b) Q' E s) → Q (if cs.any t = true then d else b) s → wpAny M A (forIn cs b f) Q E s
  | [], _, q => by
    rw [List.forIn_nil]
    exact wpAny_pure q
  | c :: r, h, q => by
    rw [List.forIn_cons]
    refine wpAny_bind (h c (List.mem_cons_self ..) _ ?_)
    rw [List.any_cons] at q
    cases e : t c with
    | true =>
      rw [e] at q
      exact wpAny_pure q
    | false =>
      rw [e] at q
      exact forIn_seek (cs := r) (fun c' hc => h c' (List.mem_cons_of_mem _ hc)) q
theorem exm_tupN {M : Model} {K : Frag} {cls : Value} {tp e : Addr} {cs : List Value} {h : Heap} (t : Value → Bool) (X : K.In h) (LT : Looks M h (typeOf (.ref e)) cls) (hp : h.get? tp = some { cls := .type "tuple", data := .seq cs.toArray }) (hx : ∀ c ∈ cs, exmOne K cls c = some (t c)) :
    Looks M h (excMatches (.ref e) (.ref tp)) (cs.any t) := by
  intro A Q E s k q
  obtain ⟨hh, g, d, tk, os⟩ := s
  have k : ∀ b o, h.get? b = some o → hh.get? b = some o := k
  have L0 : Looks M h (isInstance (.ref tp) (.type "tuple")) true := ((Looks.ld hp).andThen .now).andThen (Looks.of_pure isSubtype_tuple_tuple)
  have L0 := L0.keeps k
  have LT := LT.keeps k
  have hp' := k _ _ hp
  have ec : ∀ c ∈ cs, Looks M hh (isExcClass c) true ∧ Looks M hh (isSubtype cls c) (t c) := fun c hc => by
    obtain ⟨a, b⟩ := exm_cls (M := M) X (hx c hc)
    exact ⟨a.keeps k, b.keeps k⟩
  unfold excMatches
  refine wpAny_bind (L0.at ?_)
  dsimp only
  rw [if_pos rfl]
  first
    | refine wpAny_bind (wpAny_seqItems hp' rfl ?_)
    | refine wpAny_bind (wpAny_bind (wpAny_seqItems hp' rfl (wpAny_pure ?_)))
  dsimp only [Option.getD_some, Option.getD]
  refine wpAny_bind (wpAny_pure ?_)
  refine wpAny_bind (forIn_pass (fun c hc Q' q' => ?_) ?_)
  · refine wpAny_bind ((ec c hc).1.at ?_)
    rw [if_neg (by decide)]
    exact wpAny_pure q'
  refine wpAny_bind (LT.at ?_)
  refine wpAny_bind (forIn_seek (t := t) (d := (some true, ())) (fun c hc Q' q' => ?_) ?_)
  · refine wpAny_bind ((ec c hc).2.at ?_)
    cases e : t c with
    | true =>
      rw [e] at q'
      exact wpAny_pure q'
    | false =>
      rw [e] at q'
      exact wpAny_pure q'
  · cases e : cs.any t with
    | true =>
      rw [e] at q
      exact wpAny_pure q
    | false =>
      rw [e] at q
      exact wpAny_pure q
end OvX
namespace Ov
open PySem L2
/-- an exception that was caught, of the class at C, its dict d -/
def exg (a C : Addr) (d : Option Addr) : HO := .ext fun h => ∃ (oe : Obj) (vs : Array Value), h.get? a = some oe ∧ oe.cls = .ref C ∧ oe.dict = d ∧ oe.data = .fields vs
theorem exg_ok {P : Program} {w : World} {H : Hp} {h : Heap} {a C : Addr} {d : Option Addr} {oe : Obj} {vs : Array Value} (e : h.get? a = some oe) (c : oe.cls = .ref C) (hd : oe.dict = d) (hf : oe.data = .fields vs) : ObjOk P w H h a (exg a C d) :=
  ⟨⟨oe, vs, e, c, hd, hf⟩, ⟨oe, e⟩, fun h1 h2 z k => by
    obtain ⟨o, v, q, r⟩ := z
    exact ⟨o, v, k _ q, r⟩⟩
theorem exg_at {P : Program} {w : World} {H : Hp} {h : Heap} {a C : Addr} {d : Option Addr} (hok : HOk P w H h) (e : H a = some (exg a C d)) : ∃ (oe : Obj) (vs : Array Value), h.get? a = some oe ∧ oe.cls = .ref C ∧ oe.dict = d ∧ oe.data = .fields vs := by
  have x : ObjOk P w H h a (.ext fun h => ∃ (oe : Obj) (vs : Array Value), h.get? a = some oe ∧ oe.cls = .ref C ∧ oe.dict = d ∧ oe.data = .fields vs) := hok a _ e
  exact x.1
section
variable {X : Cx} {pins : List (Addr × Obj)} {σ : L2.St} {H : Hp} {s : Shared}
/-- an object that came up since the def began may be tracked -/
theorem track {a C : Addr} {d : Option Addr} {oe : Obj} {vs : Array Value} (I : Inv X pins σ H s) (na : H a = none) (he : s.heap.get? a = some oe) (c : oe.cls = .ref C) (hd : oe.dict = d) (hf : oe.data = .fields vs) (new : X.s_0.heap.get? a = none) (nL : a ≠ X.env.locals) (np : ∀ p ∈ X.pn ++ pins, p.1 ≠ a) :
    Inv X pins σ (upd H a (exg a C d)) s := by
  have ne : ∀ b o, X.s_0.heap.get? b = some o → b ≠ a := fun b o e z => by
    rw [z, new] at e
    cases e
  have nh : ∀ b o, H b = some o → b ≠ a := fun b o e z => by
    rw [z, na] at e
    cases e
  refine ⟨I.ok, I.os, I.bare, ⟨I.base.keep, I.base.slot, fun b o e n hx => ?_, I.base.there, fun b xs e => ?_, fun b o u e => ?_, fun b ps e => ?_⟩, I.loc, I.cell, ?_, fun x q e => ?_, fun p hp => ?_, fun b o e => ?_, I.len⟩
  · rw [upd_ne (ne b o e)]
    exact I.base.free b o e n hx
  · have q := I.base.tups b xs e
    rw [upd_ne (nh b _ q)]
    exact q
  · have q := I.base.frzs b o u e
    rw [upd_ne (nh b _ q)]
    exact q
  · obtain ⟨m, q⟩ := I.base.tbls b ps e
    refine ⟨m, ?_⟩
    rw [upd_ne (nh b _ q)]
    exact q
  · rw [upd_ne (Ne.symm nL)]
    exact I.free
  · have nq : q ≠ a := fun z => by
      obtain ⟨v, o, ho, hdt⟩ := I.cell x q e
      rw [z, he] at ho
      cases ho
      rw [hf] at hdt
      cases hdt
    rw [upd_ne nq]
    exact I.freeC x q e
  · obtain ⟨e1, e2, e3, e4, e5⟩ := I.pin p hp
    refine ⟨e1, ?_, e3, e4, e5⟩
    rw [upd_ne (np p hp)]
    exact e2
  · by_cases hb : b = a
    · subst hb
      rw [upd_same] at e
      cases e
      exact exg_ok he c hd hf
    · rw [upd_ne hb] at e
      refine (I.hok b o e).stay (fun c v _ z => z) (fun c hc => ?_) (fun c xs hc => ?_)
      · rw [upd_ne (nh c _ hc)]
        exact hc
      · rw [upd_ne (nh c _ hc)]
        exact hc
end
/-- names of classes, one after the other -/
inductive Nms (X : Cx) : List Expr → List Value → Prop where
  | nil : Nms X [] []
  | cons {x : Str} {p : Pos} {c : Value} {es : List Expr} {cs : List Value} (hg : Gl X x) (hd : (x == ("__debug__" : Str)) = false) (hm : X.mg x = some c) (he : starEach (.Name x p :: es) X.env = (false, eval (.Name x p) X.env) :: starEach es X.env) (r : Nms X es cs) : Nms X (.Name x p :: es) (c :: cs)
theorem Nms.run {X : Cx} {pins : List (Addr × Obj)} {σ : L2.St} {H : Hp} {s : Shared} {E : Value → Shared → Prop} {pos : Pos} (I : Inv X pins σ H s) : ∀ {es : List Expr} {cs : List Value} {Q : List Value → Shared → Prop}, Nms X es cs → Q cs s → wpAny (model X.prog X.w) X.A (spliced (backTo pos (starEach es X.env))) Q E s
  | _, _, _, .nil, q => wpAny_items_nil q
  | _, _, _, .cons hg hd hm he r, q => wpAny_items_cons (ld_glob I hg hm (Nms.run I r q) hd) he
theorem Nms.suite {X : Cx} {a : Addr} {pn : List (Addr × Obj)} : ∀ {es : List Expr} {cs : List Value}, Nms X es cs → Nms (X.suite a pn) es cs
  | _, _, .nil => .nil
  | _, _, .cons hg hd hm he r => .cons hg hd hm he r.suite
theorem flying_keeps {B h h' : Heap} {l : List Env} {a : Addr} {Z : Obj → Prop} (x : HandSPX.FlyingZ B l a Z h) (k : ∀ b o, h.get? b = some o → h'.get? b = some o) : HandSPX.FlyingZ B l a Z h' := by
  obtain ⟨h1, h2, h3, oe, vs, T, oT, ts, he, hz, hd, hv, hB, hT, hg, hdT, hf⟩ := x
  exact ⟨fun b o e => k b o (h1 b o e), h2, Heap.FunFrames.of_keeps (fun b o e _ => ⟨o, k b o e, rfl⟩) h3, oe, vs, T, oT, ts, k _ _ he, hz, hd, hv, hB, hT, k _ _ hg, hdT, hf⟩
/-- what such a try wishes of an exception of the body: it is caught, held by slot i in the suite, and kept behind it -/
def wKeep (t : Value → Value → Bool) (K : PySem.W.Frag) (cs : List Value) (i : Nat) (ts : Addr → Value → Option Addr → TS) (D : Ends) : WX := fun cls d σ H =>
  ∃ C : Addr, cls = .ref C ∧ (∀ c ∈ cs, PySem.W.exmOne K cls c = some (t cls c)) ∧ cs.any (t cls) = true ∧
    ∀ a, H a = none → ts a cls d { nx := fun σ' H' => D.nx (σ'.set i none) (upd H' a (exg a C d)), rt := fun _ _ => False, bk := fun _ _ => False, ct := fun _ _ => False } (σ.set i (some (.ref a))) H
section
variable {X : Cx} {n : Str} {cs : List Value} {i : Nat} {body suite : List Stmt} {b₀ : Stmt} {elts : List Expr} {kk : Nat} {tpos pos pos' : Pos} {tb : WX → TS} {ts : Addr → Value → Option Addr → TS} {t : Value → Value → Bool}
theorem ps_keep (hs : X.stack = X.env :: X.outer) (hf : X.env.frame = some X.env.locals) (hex : X.ex = []) (hN : X.N.Nodup) (hi : X.N[i]? = some n) (hln : X.env.kindOf n = some .local) (hc : Nms X elts cs) (hz : cs.length ≤ sizeLine)
    (hb : ∀ (W : WX) (pn : List (Addr × Obj)) (xe : Value → Shared → Prop), Takes (X.tr pn xe) W → PassesOwn (model X.prog X.w) X.A X.env xe → PSs (X.tr pn xe) body (tb W))
    (hsu : ∀ (a : Addr) (oe : Obj) (cls : Value) (d : Option Addr) (pn : List (Addr × Obj)), Zc cls d oe → (∃ vs, oe.data = .fields vs) → PSs (X.suite a ((a, oe) :: pn)) (b₀ :: suite) (ts a cls d)) :
    PS X (.Try body [.ExceptHandler (some (.Tuple elts kk tpos)) (some n) (b₀ :: suite) pos'] [] [] pos) (fun D σ H => tb (wKeep t X.K cs i ts D) D σ H) := by
  refine ⟨fun pins s σ H D I h => ?_⟩
  have ok := I.ok
  have hfr : X.A.frames = some (X.env :: X.outer) := by rw [ok.frames, hs]
  have hloc : Loc X.env.scope n := .inl hln
  refine wpAny_Try_except ?_
  refine wpAny_mono ((hb (wKeep t X.K cs i ts D) (X.pn ++ pins) (fun e s₁ => wpAny (model X.prog X.w) X.A (noteFrame e X.env) (fun _ s₂ => wpAny (model X.prog X.w) X.A (setFlight e none) (fun _ s₃ =>
    wpAny (model X.prog X.w) X.A (handleBy e X.env [.ExceptHandler (some (.Tuple elts kk tpos)) (some n) (b₀ :: suite) pos']) (SP X pins D) X.xe s₃) X.xe s₂) X.xe s₁) (fun u s' xx => ?_) PassesOwn.looking).run [] s σ H D (I.toTry _) h) (fun f s1 hsp => ?_) (fun e s1 he => he)
  · obtain ⟨a, B, sI, pins', σ', H', cls, d, rfl, J', nb, up, sky, na, os, ag, C, rfl, hx, hany, hyes⟩ := xx
    have J : Inv X pins σ' H' sI := J'.ofTry ok
    have sky' : Sky B (X.env :: X.outer) a (Zc (.ref C) d) X.env.locals s'.heap := by rw [← hs]; exact sky
    show wpAny (model X.prog X.w) X.A (noteFrame (.ref a) X.env) _ _ _
    refine Sky.land Zc.steady hfr hf sky' fun h3 fl3 up3 => ?_
    have J3 : Inv X pins σ' H' { s' with heap := h3 } := J.landed nb fl3.1 (up.trans up3) os ag
    obtain ⟨oe3, vs3, he3, hz3, hd3⟩ := fl3.there
    have nfr : a ∉ frs (X.env :: X.outer) := fun hm => by
      obtain ⟨_, o', e', hnf⟩ := fl3.2.2.1.mem hm
      rw [he3] at e'
      cases e'
      exact hnf _ hd3
    have nL : a ≠ X.env.locals := fun z => nfr (List.mem_filterMap.mpr ⟨X.env, List.mem_cons_self, by rw [hf, z]⟩)
    have nF : a ∉ X.fs := fun hm => by
      obtain ⟨e, he, q⟩ := List.mem_filterMap.mp hm
      exact nfr (List.mem_filterMap.mpr ⟨e, List.mem_cons_of_mem _ he, q⟩)
    have Ba : B.get? a = none := fl3.2.1
    have nS : a ∉ frs X.stack := by rw [hs]; exact nfr
    have new : X.s_0.heap.get? a = none := by
      cases e : X.s_0.heap.get? a with
      | none => rfl
      | some o =>
        obtain ⟨o', q⟩ := J.base.there a o e (by rw [hex]; exact fun z => nomatch z)
        have z := nb a o' q nS
        rw [Ba] at z
        cases z
    have npin : ∀ p ∈ X.pn ++ pins, p.1 ≠ a := fun p hp z => by
      obtain ⟨e1, _⟩ := J.pin p hp
      rw [z] at e1
      have y := nb a _ e1 nS
      rw [Ba] at y
      cases y
    have S3 := J3.suite he3 hd3 na nL nF
    refine wpAny_handleBy_cons (codeAny_handlers_test ?_) (by intro q; cases q)
    refine wpAny_Tuple ?_
    refine Nms.run (X := X.suite a ((a, oe3) :: (X.pn ++ pins))) S3 hc.suite ⟨hz, ?_⟩
    have kp : ∀ b o, h3.get? b = some o → (h3.push { cls := .type "tuple", data := .seq cs.toArray }).get? b = some o := fun _ _ z => Heap.get?_push_of_some _ z
    have LT : PySem.W.Looks (model X.prog X.w) h3 (typeOf (.ref a)) (.ref C) := fun A Q E s k q => wpAny_typeOf_ref (k _ _ he3) (by rw [hz3.1]; exact q)
    have LM := OvX.exm_tupN (M := model X.prog X.w) (tp := h3.objs.size) (t (.ref C)) (J3.kIn.keeps kp) (LT.keeps kp) (Heap.get?_push_size h3 rfl) hx
    rw [hany] at LM
    refine LM.here ?_
    refine codeAny_handlers_suite_as ?_
    refine HandSPX.lands_againZ (flying_keeps fl3 kp) fun h4 fl4 up4 => ?_
    have up34 : h3.UpToSlots h4 := (Heap.UpToSlots.of_keeps kp).trans up4
    have J4 : Inv X pins σ' H' { s' with heap := h4 } := J.landed nb fl4.1 ((up.trans up3).trans up34) os ag
    obtain ⟨oe4, vs4, he4, hz4, hd4⟩ := fl4.there
    have S4 := J4.suite he4 hd4 na nL nF
    refine store_ok (X := X.suite a ((a, oe4) :: (X.pn ++ pins))) (v := .ref a) S4 hN hi hloc rfl (fun s5 S5 => ?_) (.inr hln)
    refine wpAny_mono ((hsu a oe4 (.ref C) d (X.pn ++ pins) hz4 ⟨_, hd4⟩).run [] s5 _ H' _ S5 (hyes a na)) (fun f s6 hsp => ?_) (fun _ _ z => False.elim z)
    cases f with
    | next =>
      obtain ⟨σ6, H6, S6, q6⟩ := hsp
      refine gone_ok (X := X.suite a ((a, oe4) :: (X.pn ++ pins))) S6 hN hi hln fun s7 S7 => ?_
      obtain ⟨g1, g2, _⟩ := S7.pin (a, oe4) (List.mem_append_left _ List.mem_cons_self)
      have J7 : Inv X pins (σ6.set i none) H6 s7 := S7.unsuite ok
      exact ⟨_, _, track J7 g2 g1 hz4.1 hz4.2 hd4 new nL npin, q6⟩
    | brk =>
      obtain ⟨σ6, H6, S6, q6⟩ := hsp
      exact False.elim q6
    | cont =>
      obtain ⟨σ6, H6, S6, q6⟩ := hsp
      exact False.elim q6
    | ret u =>
      obtain ⟨v6, σ6, H6, S6, r6, q6⟩ := hsp
      exact False.elim q6
  · cases f with
    | next =>
      obtain ⟨σ', H', J', q⟩ := hsp
      exact wpAny_execs_nil ⟨σ', H', J'.ofTry ok, q⟩
    | brk =>
      obtain ⟨σ', H', J', q⟩ := hsp
      exact ⟨σ', H', J'.ofTry ok, q⟩
    | cont =>
      obtain ⟨σ', H', J', q⟩ := hsp
      exact ⟨σ', H', J'.ofTry ok, q⟩
    | ret u =>
      obtain ⟨v, σ', H', J', r, q⟩ := hsp
      exact ⟨v, σ', H', J'.ofTry ok, r, q⟩
end
end Ov

set_option Elab.async false
set_option linter.all false
set_option maxRecDepth 100000
set_option maxHeartbeats 4000000
namespace Ov
open PySem L2
abbrev tlValueError : List Value := [.type "ValueError", .type "Exception", .type "BaseException", .type "object"]
abbrev tlLookupError : List Value := [.type "LookupError", .type "Exception", .type "BaseException", .type "object"]
abbrev tlRuntimeError : List Value := [.type "RuntimeError", .type "Exception", .type "BaseException", .type "object"]
abbrev tlOverflowError : List Value := [.type "OverflowError", .type "ArithmeticError", .type "Exception", .type "BaseException", .type "object"]
/-- self.f = v -/
def spIni (K : PySem.W.Frag) (C : Addr) (bmB : List Value) (newId : String) (f : Str) : Sp := fun vs H Q _ => ∃ (a : Addr) (v : V), vs = [.ref a, v] ∧ OvX.ExK K C bmB newId ∧ PySem.W.findIn K (.ref C) f = some none ∧ H a = some (exo a C none) ∧
  ∀ dx, H dx = none → dx ≠ a → Q .non (upd (upd H dx (exd dx [(f, v)])) a (exo a C (some dx)))
/-- Contradiction(cycle), cycle a list -/
def spCon (K : PySem.W.Frag) (C : Addr) : Sp := fun vs H Q _ => ∃ (a p : Addr) (xs : List V), vs = [.ref a, .ref p] ∧ OvX.ExK K C tlValueError "ValueError.__new__" ∧ PySem.W.findIn K (.ref C) "cycle" = some none ∧ SqL K H p xs ∧ H a = some (exo a C none) ∧
  ∀ H2 l, Same H H2 → H l = none → H2 l = some (.lst xs) → ∀ dx, H2 dx = none → dx ≠ a → Q .non (upd (upd H2 dx (exd dx [("cycle", .ref l)])) a (exo a C (some dx)))
/-- Blocked(pair), pair a tuple -/
def spBlo (K : PySem.W.Frag) (C : Addr) : Sp := fun vs H Q _ => ∃ (a p : Addr) (xs : List V), vs = [.ref a, .ref p] ∧ OvX.ExK K C tlRuntimeError "RuntimeError.__new__" ∧ PySem.W.findIn K (.ref C) "pair" = some none ∧ SqT K H p xs ∧ H a = some (exo a C none) ∧
  ∀ dx, H dx = none → dx ≠ a → Q .non (upd (upd H dx (exd dx [("pair", .ref p)])) a (exo a C (some dx)))
def spOth : Sp := fun vs H Q _ => ∃ v, vs = [v] ∧ Q .non H
def tl : Nat → List Value
  | 0 => tlValueError
  | 1 => tlLookupError
  | 2 => tlRuntimeError
  | _ => tlOverflowError
def nw : Nat → String
  | 0 => "ValueError.__new__"
  | 1 => "LookupError.__new__"
  | 2 => "RuntimeError.__new__"
  | _ => "OverflowError.__new__"
structure Cl (K : PySem.W.Frag) (C : Addr) (k : Nat) : Prop where
  ex : OvX.ExK K C (tl k) (nw k)
  mro : (PySem.W.clsIn K C).map (·.mro) = some (.ref C :: tl k)
  ty : PySem.W.typeIn K (.ref C) = some (.type "type")
theorem tl_ref (k : Nat) (D : Addr) : (tl k).contains (.ref D) = false := by
  match k with
  | 0 => rfl
  | 1 => rfl
  | 2 => rfl
  | _ + 3 => rfl
theorem Cl.sub {K : PySem.W.Frag} {C : Addr} {k : Nat} (x : Cl K C k) (v : Value) : PySem.W.subIn K (.ref C) v = some ((Value.ref C :: tl k).contains v) := by
  obtain ⟨cd, h1, h2⟩ := Option.map_eq_some_iff.mp x.mro
  show PySem.W.mroIn K C v = _
  unfold PySem.W.mroIn
  rw [h1, Option.bind_some, h2]
  rfl
theorem Cl.own {K : PySem.W.Frag} {C D : Addr} {k j : Nat} (x : Cl K C k) (y : Cl K D j) : PySem.W.kitOne K (.ref C) (.ref D) = some (decide (C = D)) := by
  unfold PySem.W.kitOne
  by_cases h : C = D
  · subst h
    rw [if_pos (beq_self_eq_true _), decide_eq_true rfl]
  · have e : (Value.ref C == Value.ref D) = false := beq_eq_false_iff_ne.mpr fun z => h (Value.ref.inj z)
    rw [e, if_neg Bool.false_ne_true, decide_eq_false h]
    obtain ⟨cd, h1, h2⟩ := Option.map_eq_some_iff.mp y.mro
    show (if ((PySem.W.clsIn K D).isSome && PySem.W.typeIn K (.ref D) == some (.type "type")) = true then PySem.W.subIn K (.ref C) (.ref D) else none) = some false
    rw [h1, y.ty, if_pos (by rfl), x.sub, List.contains_cons, tl_ref]
    rw [show (Value.ref D == Value.ref C) = false from beq_eq_false_iff_ne.mpr fun z => h (Value.ref.inj z).symm]
    rfl
theorem Cl.bas {K : PySem.W.Frag} {C : Addr} {k : Nat} (x : Cl K C k) (T : String) (b : Bool) (hm : PySem.W.kitMeta T = true) (hb : (tl k).contains (.type T) = b) : PySem.W.kitOne K (.ref C) (.type T) = some b := by
  unfold PySem.W.kitOne
  rw [show (Value.ref C == Value.type T) = false from rfl, if_neg Bool.false_ne_true]
  show (if PySem.W.kitMeta T = true then PySem.W.subIn K (.ref C) (.type T) else none) = some b
  rw [if_pos hm, x.sub, List.contains_cons, hb, show (Value.type T == Value.ref C) = false from rfl, Bool.false_or]
theorem kbn_of {K : PySem.W.Frag} {x qual : Str} {st : Stmt} {f : Addr} {fd : FuncData} {ps : List Str} (F : Fun K x qual st f fd) (n : Nat) (ks : List Str)
    (h : ∀ (kV doc pm : Value) (an : Option Addr) (cdv ct : Value) (us ws : List Value), us.length = n → ws.length = ks.length → bindArgs (PySem.W.fnOf x qual (defArgs st) (defBody st) (defScope st) .none kV doc pm an cdv ct) ⟨us, ks.zip ws⟩ = pure (ps.zip (us ++ ws))) :
    KBn K fd ps n ks (fun us ws => us ++ ws) (fun vs zs => vs ++ zs) := by
  obtain ⟨oc, od, kV, doc, pm, an, cdv, ct, osl, rfl, lk, hcd⟩ := F.ex
  exact ⟨fun s us ws _ l1 l2 => .of_eq (h kV doc pm an cdv ct us ws l1 l2), fun r1 r2 => r1.append r2⟩
theorem exb (k : Nat) : ∃ B initId, ExcBaseFacts B (nw k) initId (tl k) := by
  match k with
  | 0 => exact ⟨_, _, PySem.F.excBase_ValueError⟩
  | 1 => exact ⟨_, _, PySem.F.excBase_LookupError⟩
  | 2 => exact ⟨_, _, PySem.F.excBase_RuntimeError⟩
  | _ + 3 => exact ⟨_, _, PySem.F.excBase_OverflowError⟩
def E0 : XK := fun _ _ _ => False
/-- the class x at C and its __init__(self, f) -/
structure MkE (P : Program) (w : World) (K : PySem.W.Frag) (mg : Str → Option Value) (base : Heap) (C : Addr) (k : Nat) (x f : Str) (sp : Sp) : Prop where
  cl : Cl K C k
  mgC : mg x = some (.ref C)
  no : PySem.W.findIn K (.ref C) f = some none
  ini : ∃ (fI : Addr) (fd : FuncData), PySem.W.findIn K (.ref C) "__init__" = some (some (.ref fI)) ∧ PySem.W.typeIn K (.ref fI) = some (.type "function") ∧ FnOk P w K mg base CX0 1 fI fd ["self", f] sp ∧
    KBn K fd ["self", f] 2 [] (fun us ws => us ++ ws) (fun vs zs => vs ++ zs) ∧ KBn K fd ["self", f] 1 [f] (fun us ws => us ++ ws) (fun vs zs => vs ++ zs)
/-- how a value becomes an exception -/
abbrev RN := V → Hp → (Addr → Hp → Prop) → Prop
def tNew (R : RN) (t : TA) : TE := fun σ H Q => t σ H fun vs H1 => ∃ v, vs = [v] ∧ R v H1 fun a H2 => Q (.ref a) H2
/-- the promise of __init__ serves R -/
def Serves (C : Addr) (sp : Sp) (R : RN) : Prop := ∀ (v : V) (H : Hp) (Q : Addr → Hp → Prop) (a : Addr), R v H Q → H a = none → sp [.ref a, v] (upd H a (exo a C none)) (fun r H3 => r = .non ∧ Q a H3) E0
section
variable {X : Cx} {k : Nat} {C : Addr} {sp : Sp} {x f : Str} {p pos kpos : Pos} {e : Expr} {t : TA} {te : TE} {R : RN}
theorem pe_new (M : MkE X.prog X.w X.K X.mg X.base C k x f sp) (hs : Serves C sp R) (hr : Room 2 X.A) (hg : Gl X x) (ha : PA X [e] t)
    (hdb : (x == ("__debug__" : Str)) = false := by decide) (he : starEach [e] X.env = (false, eval e X.env) :: starEach [] X.env := by rfl) (hpl : (backTo pos (starEach [] X.env)).any (·.1) = false := by rfl) :
    PE X (.Call (.Name x p) [e] [] pos) (tNew R t) := by
  refine ⟨fun pins s σ H Q I h => ?_⟩
  obtain ⟨B, initId, FB⟩ := exb k
  obtain ⟨fI, fd, iC, tI, F1, b0, bK⟩ := M.ini
  refine wpAny_Call_Name_kw (ld_glob I hg M.mgC ?_ hdb)
  refine PySem.W.callWith_K (h₀ := X.base) I.ok.mod.kin M.cl.ex.kC (thn (ha.run pos pins s σ H _ I h) fun us s1 ⟨vs, H1, I1, r, v, ev, q⟩ => ⟨I1.kIn, ?_⟩) he hpl
  subst ev
  exact run_ex (n := 1) (ks := []) (zs := []) (ws := []) (E := E0) M.cl.ex FB iC tI F1 hr b0 pass0 I1 r .nil rfl rfl (by decide) fun a na => hs v H1 _ a q na
theorem pe_newK (M : MkE X.prog X.w X.K X.mg X.base C k x f sp) (hs : Serves C sp R) (hr : Room 2 X.A) (hg : Gl X x) (ha : PE X e te)
    (hdb : (x == ("__debug__" : Str)) = false := by decide) (hall : (backToKw pos (keywordEach [⟨some f, e, kpos⟩] X.env)).all (·.1.isSome) = true := by rfl) (hks : (backToKw pos (keywordEach [⟨some f, e, kpos⟩] X.env)).filterMap (·.1) = [f] := by rfl)
    (hpl : ((backTo pos (starEach [] X.env)).any (·.1) || (backToKw pos (keywordEach [⟨some f, e, kpos⟩] X.env)).any (·.1.isNone)) = false := by rfl) :
    PE X (.Call (.Name x p) [] [⟨some f, e, kpos⟩] pos) (tNew R (tCons te tNil)) := by
  refine ⟨fun pins s σ H Q I h => ?_⟩
  obtain ⟨B, initId, FB⟩ := exb k
  obtain ⟨fI, fd, iC, tI, F1, b0, bK⟩ := M.ini
  refine wpAny_Call_Name_kw (ld_glob I hg M.mgC ?_ hdb)
  refine PySem.W.callWith_KW0 (h₀ := X.base) I.ok.mod.kin M.cl.ex.kC hall ?_ hpl
  refine thn ((pk_cons ha pk_nil).run pos pins s σ H _ I h) fun ws s2 ⟨zs, H2, I2, rz, v, ev, q⟩ => ⟨I2.kIn, ?_⟩
  subst ev
  rw [hks]
  exact run_ex (n := 0) (us := []) (vs := []) (E := E0) M.cl.ex FB iC tI F1 hr bK pass0 I2 .nil rz rfl rfl (by decide) fun a na => hs v H2 _ a q na
end
/-! the three ways -/
theorem laid {H : Hp} {a dx C : Addr} {f : Str} {v : V} (na : H a = none) (nd : upd H a (exo a C none) dx = none) (ne : dx ≠ a) :
    Same H (upd (upd (upd H a (exo a C none)) dx (exd dx [(f, v)])) a (exo a C (some dx))) := fun b o h => by
  have hb : b ≠ a := ne_of_none h na
  have hd : b ≠ dx := ne_of_none h (by rw [upd_ne ne] at nd; exact nd)
  rw [upd_ne hb, upd_ne hd, upd_ne hb]
  exact h
theorem exc_laid {K : PySem.W.Frag} {H : Hp} {a dx C : Addr} {f : Str} {v : V} {k : Nat} (x : Cl K C k) (ne : dx ≠ a) : Exc K (upd (upd H dx (exd dx [(f, v)])) a (exo a C (some dx))) a C [(f, v)] :=
  ⟨_, _, x.ex, .inr ⟨dx, upd_same, by rw [upd_ne ne]; exact upd_same⟩⟩
def rPlain (K : PySem.W.Frag) (C : Addr) (f : Str) : RN := fun v H Q => ∀ a H', Same H H' → H a = none → Exc K H' a C [(f, v)] → Q a H'
theorem serves_plain {K : PySem.W.Frag} {C : Addr} {f : Str} {k : Nat} (x : Cl K C k) (no : PySem.W.findIn K (.ref C) f = some none) : Serves C (spIni K C (tl k) (nw k) f) (rPlain K C f) := fun v H Q a q na =>
  ⟨a, v, rfl, x.ex, no, upd_same, fun dx nd ne => ⟨rfl, q a _ (laid na nd ne) na (exc_laid x ne)⟩⟩
def rList (K : PySem.W.Frag) (C : Addr) : RN := fun v H Q => ∃ (p : Addr) (xs : List V), v = .ref p ∧ SqL K H p xs ∧ ∀ a l H', Same H H' → H a = none → H l = none → H' l = some (.lst xs) → Exc K H' a C [("cycle", .ref l)] → Q a H'
theorem serves_list {K : PySem.W.Frag} {C : Addr} (x : Cl K C 0) (no : PySem.W.findIn K (.ref C) "cycle" = some none) : Serves C (spCon K C) (rList K C) := fun v H Q a q na => by
  obtain ⟨p, xs, rfl, hp, q⟩ := q
  refine ⟨a, p, xs, rfl, x.ex, no, (same_new na _).seq hp, upd_same, fun H2 l s2 nl hl dx nd ne => ⟨rfl, ?_⟩⟩
  have la : l ≠ a := fun z => by
    rw [z, upd_same] at nl
    cases nl
  have nl' : H l = none := by
    rw [upd_ne la] at nl
    exact nl
  have ld : l ≠ dx := fun z => by
    rw [z, nd] at hl
    cases hl
  refine q a l _ (fun b o h => ?_) na nl' ?_ (exc_laid x ne)
  · have hb : b ≠ a := ne_of_none h na
    have h2 := s2 _ _ (by rw [upd_ne hb]; exact h)
    rw [upd_ne hb, upd_ne (ne_of_none h2 nd)]
    exact h2
  · rw [upd_ne la, upd_ne ld]
    exact hl
def rTup (K : PySem.W.Frag) (C : Addr) : RN := fun v H Q => ∃ (p : Addr) (xs : List V), v = .ref p ∧ SqT K H p xs ∧ ∀ a H', Same H H' → H a = none → Exc K H' a C [("pair", .ref p)] → Q a H'
theorem serves_tup {K : PySem.W.Frag} {C : Addr} (x : Cl K C 2) (no : PySem.W.findIn K (.ref C) "pair" = some none) : Serves C (spBlo K C) (rTup K C) := fun v H Q a q na => by
  obtain ⟨p, xs, rfl, hp, q⟩ := q
  exact ⟨a, p, xs, rfl, x.ex, no, seqT (same_new na _) hp, upd_same, fun dx nd ne => ⟨rfl, q a _ (laid na nd ne) na (exc_laid x ne)⟩⟩
/-- C() -/
structure MkE0 (P : Program) (w : World) (K : PySem.W.Frag) (mg : Str → Option Value) (base : Heap) (C : Addr) (k : Nat) (x : Str) : Prop where
  cl : Cl K C k
  mgC : mg x = some (.ref C)
  ini : ∃ (fI : Addr) (fd : FuncData), PySem.W.findIn K (.ref C) "__init__" = some (some (.ref fI)) ∧ PySem.W.typeIn K (.ref fI) = some (.type "function") ∧ FnOk P w K mg base CX0 1 fI fd ["self"] spOth ∧ KBn K fd ["self"] 1 [] (fun us ws => us ++ ws) (fun vs zs => vs ++ zs)
def tNew0 (K : PySem.W.Frag) (C : Addr) : TE := fun σ H Q => ∀ a H', Same H H' → H a = none → Exc K H' a C [] → Q (.ref a) H'
theorem pe_new0 {X : Cx} {k : Nat} {C : Addr} {x : Str} {p pos : Pos} (M : MkE0 X.prog X.w X.K X.mg X.base C k x) (hr : Room 2 X.A) (hg : Gl X x) (hdb : (x == ("__debug__" : Str)) = false := by decide) : PE X (.Call (.Name x p) [] [] pos) (tNew0 X.K C) := by
  refine ⟨fun pins s σ H Q I h => ?_⟩
  obtain ⟨B, initId, FB⟩ := exb k
  obtain ⟨fI, fd, iC, tI, F1, b0⟩ := M.ini
  refine wpAny_Call_Name_kw (ld_glob I hg M.mgC ?_ hdb)
  exact PySem.W.callWith_K0 I.kIn M.cl.ex.kC (run_ex (n := 0) (ks := []) (zs := []) (ws := []) (vs := []) (us := []) (E := E0) M.cl.ex FB iC tI F1 hr b0 pass0 I .nil .nil rfl rfl (by decide)
    fun a na => ⟨_, rfl, rfl, h a _ (same_new na _) na ⟨_, _, M.cl.ex, .inl ⟨rfl, upd_same⟩⟩⟩)
theorem tl_tail (k : Nat) : PySem.W.excTail (tl k) (tl k) = true := by
  match k with
  | 0 => decide +kernel
  | 1 => decide +kernel
  | 2 => decide +kernel
  | _ + 3 => exact (by decide +kernel : PySem.W.excTail tlOverflowError tlOverflowError = true)
section
variable {K : PySem.W.Frag} {C : Addr} {nm q : Str} {N : Addr} {bs : List Value} {sn : List Str} {sub : List Value} {ab : Bool} {col : Option Bool} {dd : Option Addr} {k0 k1 k2 k3 k5 : Option Value}
theorem cl_mk (k : Nat) (xL : K.lookup C = some (excClassObj nm q C N bs (tl k) true sn sub ab col dd k0 k1 k2 k3 k5 (nw k)))
    (sa : PySem.W.findIn K (.ref C) "__setattr__" = some (some (.builtin "object.__setattr__"))) (ga : PySem.W.findIn K (.ref C) "__getattribute__" = some (some (.builtin "BaseException.__getattribute__"))) (gg : PySem.W.findIn K (.ref C) "__getattr__" = some none)
    (kC : PySem.W.keepIn K (.ref C) = true) (ca : PySem.W.findIn K (.ref C) "__class__" = some (some (.builtin "object.__class__"))) (ty : PySem.W.typeIn K (.ref C) = some (.type "type"))
    (sp : PySem.W.specialIn K (.builtin "object.__class__") "__get__" = some (some (.builtin "getset_descriptor.__get__"))) (tk : PySem.W.takesIn K (.builtin "object.__class__") = some true) : Cl K C k := by
  have hc : (PySem.W.clsIn K C).map (·.mro) = some (.ref C :: tl k) := by
    unfold PySem.W.clsIn
    rw [xL]
    rfl
  have hs : ∀ v, PySem.W.mroIn K C v = some ((Value.ref C :: tl k).contains v) := fun v => by
    obtain ⟨cd, h1, h2⟩ := Option.map_eq_some_iff.mp hc
    unfold PySem.W.mroIn
    rw [h1, Option.bind_some, h2]
    rfl
  have tB : (tl k).contains (.type "BaseException") = true ∧ (tl k).contains (.type "object") = true := by
    match k with
    | 0 => decide +kernel
    | 1 => decide +kernel
    | 2 => decide +kernel
    | _ + 3 => exact (by decide +kernel : tlOverflowError.contains (.type "BaseException") = true ∧ tlOverflowError.contains (.type "object") = true)
  refine ⟨⟨?_, ?_, sa, ga, gg, ?_, ?_, kC, ca, sp, tk, ?_⟩, hc, ty⟩
  · unfold PySem.W.excOver PySem.W.clsIn
    rw [xL]
    show (C == C && PySem.W.excTail (tl k) (tl k)) = true
    rw [tl_tail, beq_self_eq_true]
    rfl
  · unfold PySem.W.excInitIn
    rw [xL]
    show (C == C && nw k == nw k && !false && PySem.W.excTail (tl k) (tl k)) = true
    rw [tl_tail, beq_self_eq_true, beq_self_eq_true]
    rfl
  · show PySem.W.mroIn K C _ = _
    rw [hs, List.contains_cons, tB.1, Bool.or_true]
  · unfold PySem.W.hasDictIn PySem.W.clsIn
    rw [xL]
    rfl
  · rw [hs, List.contains_cons, tB.2, Bool.or_true]
end

theorem tl_at {k : Nat} (h : k < 4) : (tl k).contains (.type "ValueError") = decide (k = 0) ∧ (tl k).contains (.type "LookupError") = decide (k = 1) ∧ (tl k).contains (.type "RuntimeError") = decide (k = 2) ∧ (tl k).contains (.type "OverflowError") = decide (k = 3) ∧
    (tl k).contains (.type "IndexError") = false ∧ (tl k).contains (.type "KeyError") = false ∧ (tl k).contains (.type "NotImplementedError") = false := by
  match k, h with
  | 0, _ => decide +kernel
  | 1, _ => decide +kernel
  | 2, _ => decide +kernel
  | 3, _ => decide +kernel
/-! raise C(e) -/
theorem Cl.raises {X : Cx} {C : Addr} {k : Nat} (x : Cl X.K C k) : Raises X (.ref C) := raises_own x.ex.exC x.ty
/-- the exception's own dict alone is told behind the making -/
def tRz (C : Addr) (sp : Sp) (t : TA) : L2.St → Hp → XK → Prop := fun σ H Q => t σ H fun vs H1 => ∃ v, vs = [v] ∧ ∀ a, H1 a = none → sp [.ref a, v] (upd H1 a (exo a C none))
  (fun r H2 => r = .non ∧ ∃ (d : Addr) (fs : List (Str × V)), H2 a = some (exo a C (some d)) ∧ H2 d = some (exd d fs) ∧ H1 d = none ∧ Q (.ref C) (some d) (upd (del H2 a) d (.xd fs))) E0
theorem pmk_ex {X : Cx} {k : Nat} {C : Addr} {sp : Sp} {x f : Str} {p pos : Pos} {e : Expr} {t : TA} (M : MkE X.prog X.w X.K X.mg X.base C k x f sp) (hr : Room 2 X.A) (hg : Gl X x) (ha : PA X [e] t)
    (hdb : (x == ("__debug__" : Str)) = false := by decide) (he : starEach [e] X.env = (false, eval e X.env) :: starEach [] X.env := by rfl) (hpl : (backTo pos (starEach [] X.env)).any (·.1) = false := by rfl) :
    PMk X (.Call (.Name x p) [e] [] pos) (tRz C sp t) := by
  intro pins s σ H Q I h
  obtain ⟨B, initId, FB⟩ := exb k
  obtain ⟨fI, fd, iC, tI, F1, b0, bK⟩ := M.ini
  refine wpAny_Call_Name_kw (ld_glob I hg M.mgC ?_ hdb)
  refine PySem.W.callWith_K (h₀ := X.base) I.ok.mod.kin M.cl.ex.kC (thn (ha.run pos pins s σ H _ I h) fun us s1 ⟨vs, H1, I1, r, v, ev, q⟩ => ⟨I1.kIn, ?_⟩) he hpl
  subst ev
  obtain ⟨nm, N, qn, bs, bm, hdct, sn, sub, ab, col, dd, k0, k1, k2, k3, k5, hC, hT⟩ := PySem.W.excInit_of I1.kIn M.cl.ex.ini
  obtain ⟨hp, gs, dr, tk, os⟩ := s1
  have hsz : hp.objs.size ≤ hp.objs.size + 1 := Nat.le_succ _
  have hq := q (hp.objs.size + 1) (I1.hok.fresh hsz)
  have kk : ∀ b u, hp.get? b = some u → ((hp.push (PySem.W.kdv_tup us)).push (PySem.HandSPX.excO C hp.objs.size)).get? b = some u := fun b u q => Heap.get?_push_of_some _ (Heap.get?_push_of_some _ q)
  have hg : ((hp.push (PySem.W.kdv_tup us)).push (PySem.HandSPX.excO C hp.objs.size)).get? (hp.objs.size + 1) = some (PySem.HandSPX.excO C hp.objs.size) := by heap_get
  have I2 : Inv X pins σ (upd H1 (hp.objs.size + 1) (exo (hp.objs.size + 1) C none)) ⟨(hp.push (PySem.W.kdv_tup us)).push (PySem.HandSPX.excO C hp.objs.size), gs, dr, tk, os⟩ :=
    I1.laid (t' := tk) (a := hp.objs.size + 1) (o := exo (hp.objs.size + 1) C none) (h' := (hp.push (PySem.W.kdv_tup us)).push (PySem.HandSPX.excO C hp.objs.size)) kk hsz (exo_ok hg)
  have r1 : Vals [V.ref (hp.objs.size + 1), v] (Value.ref (hp.objs.size + 1) :: us) := .cons rfl r
  have e1 : (Value.ref (hp.objs.size + 1) :: us).length = 2 := r1.length.symm
  have hus : us.length ≤ sizeLine := by
    rw [← r.length, sizeLine_eq]
    exact (by decide : 1 ≤ 16777216)
  have r2 : Vals [V.ref (hp.objs.size + 1), v] ((Value.ref (hp.objs.size + 1) :: us) ++ []) := by rw [List.append_nil]; exact r1
  refine wpAny_call (OvX.callOwn (kw := []) FB hT hC (PySem.W.looks_findIn I1.kIn iC) (fun self => PySem.W.bind_fn I1.kIn self tI) hus
    (codeAny_mono (F1.run _ X.stack _ _ ⟨Value.ref (hp.objs.size + 1) :: us, []⟩ ((Value.ref (hp.objs.size + 1) :: us) ++ []) _ _ E0 (hr.make C us []) (I2.env0.make C us []) (b0.to _ _ [] I2.kIn e1 rfl) r2 hq) fun r s' hq' => ?_))
  cases r with
  | error er => exact pass0 (X := X) pins σ _ _ er s' I2 hq'
  | ok fl =>
    cases fl with
    | ret u =>
      obtain ⟨v', H2, os2, bare2, un2, hok2, rv, ev, d, fs, ea, ed, hd1, q2⟩ := hq'
      subst ev
      obtain ⟨h2, g2, d2, t2, os'⟩ := s'
      exact ⟨rv, mk_end M.cl.raises I1 hsz kk un2 hok2 os2 bare2 ea ed hd1 q2⟩
    | next => exact False.elim hq'
    | brk => exact False.elim hq'
    | cont => exact False.elim hq'
/-- with a plain __init__ -/
theorem rz_plain {K : PySem.W.Frag} {C : Addr} {k : Nat} {f : Str} {v : V} {H1 : Hp} {Q : XK} (x : Cl K C k) (no : PySem.W.findIn K (.ref C) f = some none) (q : ∀ d H', Same H1 H' → H1 d = none → H' d = some (.xd [(f, v)]) → Q (.ref C) (some d) H') (a : Addr) (na : H1 a = none) :
    spIni K C (tl k) (nw k) f [.ref a, v] (upd H1 a (exo a C none)) (fun r H2 => r = .non ∧ ∃ (d : Addr) (fs : List (Str × V)), H2 a = some (exo a C (some d)) ∧ H2 d = some (exd d fs) ∧ H1 d = none ∧ Q (.ref C) (some d) (upd (del H2 a) d (.xd fs))) E0 := by
  refine ⟨a, v, rfl, x.ex, no, upd_same, fun dx nd ne => ⟨rfl, dx, [(f, v)], upd_same, ?_, ?_, ?_⟩⟩
  · rw [upd_ne ne]
    exact upd_same
  · rw [upd_ne ne] at nd
    exact nd
  · rw [upd_ne ne] at nd
    refine q dx _ (fun b o h => ?_) nd upd_same
    have hb : b ≠ a := ne_of_none h na
    have hd : b ≠ dx := ne_of_none h nd
    rw [upd_ne hd, del_ne hb, upd_ne hb, upd_ne hd, upd_ne hb]
    exact h
/-! a caught exception -/
def Cau (K : PySem.W.Frag) (H : Hp) (a C : Addr) (fs : List (Str × V)) : Prop := ∃ (k : Nat) (d : Addr), Cl K C k ∧ H a = some (exg a C (some d)) ∧ H d = some (.xd fs)
theorem Cau.same {K : PySem.W.Frag} {H H' : Hp} {a C : Addr} {fs : List (Str × V)} (h : Cau K H a C fs) (s : Same H H') : Cau K H' a C fs := by
  obtain ⟨k, d, x, h1, h2⟩ := h
  exact ⟨k, d, x, s _ _ h1, s _ _ h2⟩
section
variable {X : Cx} {e : Expr} {te : TE} {pos : Pos}
theorem cau_inst {pins : List (Addr × Obj)} {σ : L2.St} {H : Hp} {s : Shared} {a C : Addr} {fs : List (Str × V)} (I : Inv X pins σ H s) (h : Cau X.K H a C fs) :
    ∃ (k : Nat) (oe od : Obj) (mA : Str → Option Value), Cl X.K C k ∧ PySem.W.InstAt s.heap a oe C (some od) ∧ (∀ f, RelO (fs.lookup f) (mA f)) ∧ ∀ f, PySem.W.lookIn f od = some (mA f) := by
  obtain ⟨k, d, x, h1, h2⟩ := h
  obtain ⟨oe, vs, he, hc, hd, hf⟩ := exg_at I.hok h1
  have hx : ObjOk X.prog X.w H s.heap d (.xd fs) := I.hok d _ h2
  obtain ⟨mA, hns, rel⟩ := hx
  obtain ⟨od, ho, hl⟩ := lookIn_ns hns
  exact ⟨k, oe, od, mA, x, ⟨he, hc, by unfold PySem.W.notCls; rw [hf] <;> rfl, by rw [hd]; exact ho⟩, rel, hl⟩
def tCaf (K : PySem.W.Frag) (f : Str) (te : TE) : TE := fun σ H Q => te σ H fun x H1 => ∃ (a C : Addr) (fs : List (Str × V)) (v : V), x = .ref a ∧ Cau K H1 a C fs ∧ PySem.W.findIn K (.ref C) f = some none ∧ fs.lookup f = some v ∧ Q v H1
theorem pe_caf {f : Str} (he : PE X e te) (hb : attributeBase e f X.env (eval e X.env) = eval e X.env := by rfl) : PE X (.Attribute e f pos) (tCaf X.K f te) := by
  refine ⟨fun pins s σ H Q I h => ?_⟩
  refine attr_of hb (thn (he.run pins s σ H _ I h) fun u s1 hh => ?_)
  obtain ⟨y, H1, I1, rx, a, C, fs, v, ex, hE, hno, l, q⟩ := hh
  subst ex
  obtain rfl : u = Value.ref a := rx
  obtain ⟨k, oe, od, mA, x, J, rel, hl⟩ := cau_inst I1 hE
  obtain ⟨u, hu, ru⟩ := RelO.some_of (v := v) (o := mA f) (by rw [← l]; exact rel f)
  exact HandSPX.exc_get I1.kIn J x.ex.ga x.ex.gg x.ex.exC (PySem.W.findObj_own x.ex.hd hno rfl (by rw [hl, hu])) (handed_of ru) ⟨v, H1, I1.tok _, ru, q⟩
theorem cau_kit {pins : List (Addr × Obj)} {σ : L2.St} {H : Hp} {s : Shared} {a C : Addr} {fs : List (Str × V)} (I : Inv X pins σ H s) (h : Cau X.K H a C fs) : ∃ P : Heap → Prop, PySem.W.KitX X.K (.ref a) (.ref C) P ∧ P s.heap := by
  obtain ⟨k, oe, od, mA, x, J, rel, hl⟩ := cau_inst I h
  obtain ⟨cd, hcd, _⟩ := PySem.W.any_some x.ex.hd
  exact ⟨_, PySem.W.kitx_exc (by rw [hcd]; rfl) x.ex.ga x.ex.gg x.ex.exC x.ex.ca x.ex.sp x.ex.tk x.ex.mr, J⟩
def rIsC (K : PySem.W.Frag) : List V → Hp → VK → Prop := fun xs H Q => ∃ (a C : Addr) (fs : List (Str × V)) (c : V) (u : Value) (b : Bool), xs = [.ref a, c] ∧ ClsV c u ∧ Cau K H a C fs ∧ PySem.W.kitOne K (.ref C) u = some b ∧ Q (.bl b) H
theorem call_isC : CallR X (.builtin "isinstance") (rIsC X.K) := by
  intro pins s σ H xs us Q I r h
  obtain ⟨a, C, fs, c, u, b, rfl, k, ex, e, q⟩ := h
  obtain ⟨u1, u2, rfl, r1, r2⟩ := vals2 r
  have e2 := k.eq r2
  subst e2
  obtain rfl : u1 = Value.ref a := r1
  obtain ⟨P, Z, p⟩ := cau_kit I ex
  exact PySem.W.kia_one Z I.kIn p e (fun z => nomatch z) fun tk => ⟨.bl b, H, I.tok tk, rfl, q⟩
end
/-- one own class among the classes of a clause -/
theorem Cl.exm {K : PySem.W.Frag} {C D : Addr} {k j : Nat} (x : Cl K C k) (y : Cl K D j) : PySem.W.exmOne K (.ref C) (.ref D) = some (decide (C = D)) := by
  obtain ⟨cd, h1, h2⟩ := Option.map_eq_some_iff.mp y.mro
  show (if (PySem.W.subIn K (.ref D) (.type "BaseException") == some true) = true then (if ((PySem.W.clsIn K D).isSome && PySem.W.typeIn K (.ref D) == some (.type "type")) = true then PySem.W.subIn K (.ref C) (.ref D) else none) else none) = _
  rw [y.ex.exC, if_pos (by rfl), h1, y.ty, if_pos (by rfl), x.sub, List.contains_cons, tl_ref, Bool.or_false]
  by_cases h : C = D
  · subst h
    rw [beq_self_eq_true, decide_eq_true rfl]
  · rw [decide_eq_false h]
    exact congrArg some (beq_eq_false_iff_ne.mpr fun z => h (Value.ref.inj z).symm)
/-! f(k = v, ..): keywords alone -/
section
variable {X : Cx} {CX : CXT} {k : Nat} {f : Addr} {fd : FuncData} {ps ks : List Str} {sp : Sp} {x : Str} {p pos : Pos} {kws : List Keyword} {tk : TA} {g : List Value → List Value → List Value} {gV : List V → List V → List V}
theorem pe_callK0 {E : XK} (F : FnOk X.prog X.w X.K X.mg X.base CX k f fd ps sp) (hr : Room k X.A) (hg : Gl X x) (hm : X.mg x = some (.ref f)) (hk : PySem.W.keepIn X.K (.ref f) = true) (hb : KBn X.K fd ps 0 ks g gV) (hx : Passes CX X E) (hkw : PK X kws tk)
    (hall : (backToKw pos (keywordEach kws X.env)).all (·.1.isSome) = true := by rfl) (hks : (backToKw pos (keywordEach kws X.env)).filterMap (·.1) = ks := by rfl) (hdb : (x == ("__debug__" : Str)) = false := by decide)
    (hpl : ((backTo pos (starEach [] X.env)).any (·.1) || (backToKw pos (keywordEach kws X.env)).any (·.1.isNone)) = false := by rfl) :
    PE X (.Call (.Name x p) [] kws pos) (tCallN 0 ks.length sp gV E tNil tk) := by
  refine ⟨fun pins s σ H Q I h => ?_⟩
  refine wpAny_Call_Name_kw (ld_glob I hg hm ?_ hdb)
  refine PySem.W.callWith_KW0 (h₀ := X.base) I.ok.mod.kin hk hall ?_ hpl
  refine thn (hkw.run pos pins s σ H _ I h) fun ws s2 ⟨zs, H2, I2, rz, l1, l2, q2⟩ => ⟨I2.kIn, ?_⟩
  rw [hks]
  exact run_fnN (us := []) (vs := []) F hr hb hx I2 .nil rz rfl l2 q2
/-- the same where what is raised is wished for at the caller's slots -/
def tCallKS (m : Nat) (sp : Sp) (gV : List V → List V → List V) (E : L2.St → XK) (tk : TA) : TE := fun σ H Q => tk σ H fun zs H2 => zs.length = m ∧ sp (gV [] zs) H2 Q (E σ)
theorem pe_callKS {E : L2.St → XK} (F : FnOk X.prog X.w X.K X.mg X.base CX k f fd ps sp) (hr : Room k X.A) (hg : Gl X x) (hm : X.mg x = some (.ref f)) (hk : PySem.W.keepIn X.K (.ref f) = true) (hb : KBn X.K fd ps 0 ks g gV) (hx : ∀ σ, PassesAt CX X σ (E σ)) (hkw : PK X kws tk)
    (hall : (backToKw pos (keywordEach kws X.env)).all (·.1.isSome) = true := by rfl) (hks : (backToKw pos (keywordEach kws X.env)).filterMap (·.1) = ks := by rfl) (hdb : (x == ("__debug__" : Str)) = false := by decide)
    (hpl : ((backTo pos (starEach [] X.env)).any (·.1) || (backToKw pos (keywordEach kws X.env)).any (·.1.isNone)) = false := by rfl) :
    PE X (.Call (.Name x p) [] kws pos) (tCallKS ks.length sp gV E tk) := by
  refine ⟨fun pins s σ H Q I h => ?_⟩
  refine wpAny_Call_Name_kw (ld_glob I hg hm ?_ hdb)
  refine PySem.W.callWith_KW0 (h₀ := X.base) I.ok.mod.kin hk hall ?_ hpl
  refine thn (hkw.run pos pins s σ H _ I h) fun ws s2 ⟨zs, H2, I2, rz, l2, q2⟩ => ⟨I2.kIn, ?_⟩
  rw [hks]
  have r2 := hb.rel (vs := []) (us := []) .nil rz
  refine wpAny_call (codeAny_mono (F.run X.A X.stack s2 H2 ⟨[], ks.zip ws⟩ (g [] ws) (gV [] zs) Q (E σ) hr I2.env0 (hb.to s2 [] ws I2.kIn rfl (rz.length.symm.trans l2)) r2 q2) fun r s' hq => ?_)
  cases r with
  | error e => exact hx σ pins H2 s2 e s' I2 hq
  | ok fl =>
    cases fl with
    | ret u => exact I2.after hq
    | next => exact False.elim hq
    | brk => exact False.elim hq
    | cont => exact False.elim hq
end
end Ov

set_option Elab.async false
set_option linter.all false
set_option maxRecDepth 100000
set_option maxHeartbeats 4000000
namespace Ov
open PySem L2
/-! sequences that are lists or tuples -/
def Sq (K : PySem.W.Frag) (H : Hp) (a : Addr) (xs : List V) : Prop := SqL K H a xs ∨ SqT K H a xs
theorem Sq.same {K : PySem.W.Frag} {H H' : Hp} {a : Addr} {xs : List V} (h : Sq K H a xs) (s : Same H H') : Sq K H' a xs := h.imp (fun z => s.seq z) (fun z => seqT s z)
theorem cut_to {xs : List V} {i : Int} (h0 : 0 ≤ i) (h1 : i ≤ xs.length) : cutV xs none (some i) = xs.take i.toNat := by
  unfold cutV
  simp only [HT.sIx]
  rw [if_neg (by omega), Nat.min_eq_left (by omega)]
  rfl
theorem cut_from {xs : List V} {i : Int} (h0 : 0 ≤ i) (h1 : i ≤ xs.length) : cutV xs (some i) none = xs.drop i.toNat := by
  unfold cutV
  simp only [HT.sIx]
  rw [if_neg (by omega), Nat.min_eq_left (by omega), List.take_of_length_le (by rw [List.length_drop]; omega)]
theorem cut_all {xs : List V} {lo hi : Option Int} (h : HT.sIx xs.length 0 lo = 0 ∧ HT.sIx xs.length xs.length hi = xs.length) : cutV xs lo hi = xs := by
  unfold cutV
  rw [h.1, h.2]
  simp
section
variable {X : Cx}
/-- a slice of a list or a tuple, by its items -/
def rCut (K : PySem.W.Frag) : V → Option Int → Option Int → Hp → VK → Prop := fun x lo hi H Q => ∃ (a : Addr) (xs : List V), x = .ref a ∧
  ((SqL K H a xs ∧ ∀ p H', Same H H' → H p = none → H' p = some (.lst (cutV xs lo hi)) → Q (.ref p) H') ∨ (SqT K H a xs ∧ ∀ p H', Same H H' → SqT K H' p (cutV xs lo hi) → Q (.ref p) H'))
theorem sl_cut : SlR X (rCut X.K) := by
  intro pins s σ H x v vl vu lo hi sl Q I rx hs pl pu q
  obtain ⟨a, xs, rfl, ⟨h, q⟩ | ⟨h, q⟩⟩ := q
  · exact sl_list pins s σ H _ v vl vu lo hi sl Q I rx hs pl pu ⟨a, xs, rfl, h, fun p hp => q p _ (same_new hp _) hp upd_same⟩
  · exact sl_tupA pins s σ H _ v vl vu lo hi sl Q I rx hs pl pu ⟨a, xs, rfl, h, fun z => q a H (same_refl H) (by rw [cut_all z]; exact h), fun _ p hp => q p _ (same_new hp _) (SqT.of upd_same)⟩
/-- the same, whatever it is -/
def rCutS (K : PySem.W.Frag) : V → Option Int → Option Int → Hp → VK → Prop := fun x lo hi H Q => ∃ (a : Addr) (xs : List V), x = .ref a ∧ Sq K H a xs ∧ ∀ p H', Same H H' → Sq K H' p (cutV xs lo hi) → Q (.ref p) H'
theorem sl_cutS : SlR X (rCutS X.K) := by
  intro pins s σ H x v vl vu lo hi sl Q I rx hs pl pu q
  obtain ⟨a, xs, rfl, h | h, q⟩ := q
  · exact sl_cut pins s σ H _ v vl vu lo hi sl Q I rx hs pl pu ⟨a, xs, rfl, .inl ⟨h, fun p H' s' _ hp => q p H' s' (.inl (SqL.of hp))⟩⟩
  · exact sl_cut pins s σ H _ v vl vu lo hi sl Q I rx hs pl pu ⟨a, xs, rfl, .inr ⟨h, fun p H' s' hp => q p H' s' (.inr hp)⟩⟩
/-- t + u, by its items -/
def rCatW (K : PySem.W.Frag) : R2 := fun x y H Q => ∃ (a b : Addr) (xs ys : List V), x = .ref a ∧ y = .ref b ∧ SqT K H a xs ∧ SqT K H b ys ∧ xs.length + ys.length ≤ sizeLine ∧ ∀ p H', Same H H' → SqT K H' p (xs ++ ys) → Q (.ref p) H'
theorem op_catW : OpR X (binaryOp .Add) (rCatW X.K) := by
  intro pins s σ H x y v u Q I rx ry h
  obtain ⟨a, b, xs, ys, rfl, rfl, ha, hb, hl, q⟩ := h
  refine op_catA pins s σ H _ _ v u Q I rx ry ⟨a, b, xs, ys, rfl, rfl, ha, hb, hl, fun e => q b H (same_refl H) ?_, fun _ e => q a H (same_refl H) ?_, fun _ _ p hp => q p _ (same_new hp _) (SqT.of upd_same)⟩
  · rw [e]
    exact hb
  · rw [e, List.append_nil]
    exact ha
/-- tuple(x), by its items -/
def rTupW (K : PySem.W.Frag) : List V → Hp → VK → Prop := fun vs H Q => ∃ (a : Addr) (xs : List V), vs = [.ref a] ∧ Sq K H a xs ∧ ∀ p H', Same H H' → SqT K H' p xs → Q (.ref p) H'
theorem call_tupW : CallR X (.type "tuple") (rTupW X.K) := by
  intro pins s σ H vs us Q I r h
  obtain ⟨a, xs, rfl, hs, q⟩ := h
  refine call_tuple_of pins s σ H _ us Q I r ⟨a, xs, rfl, ?_⟩
  rcases hs with hs | hs
  · exact .inl ⟨hs, fun l hl => q l _ (same_new hl _) (SqT.of upd_same)⟩
  · exact .inr ⟨hs, q a H (same_refl H) hs⟩
end
/-! numbers among numbers -/
theorem in_ints (x : Int) : ∀ ns : List Int, inV (.int x) (ns.map V.int) = decide (x ∈ ns)
  | [] => rfl
  | n :: r => by
    have ih := in_ints x r
    unfold inV at ih ⊢
    rw [List.map_cons, List.any_cons, ih]
    show ((n == x) || decide (x ∈ r)) = decide (x ∈ n :: r)
    by_cases h : n = x
    · subst h
      simp
    · rw [beq_eq_false_iff_ne.mpr h, Bool.false_or]
      by_cases h2 : x ∈ r
      · rw [decide_eq_true h2, decide_eq_true (List.mem_cons_of_mem _ h2)]
      · rw [decide_eq_false h2, decide_eq_false (fun z => (List.mem_cons.mp z).elim (fun e => h e.symm) h2)]
theorem flat_ints (ns : List Int) : (ns.map V.int).all flatV = true := by
  rw [List.all_map]
  exact List.all_eq_true.mpr fun _ _ => rfl
end Ov

set_option Elab.async false
set_option linter.all false
set_option maxRecDepth 100000
set_option maxHeartbeats 4000000
namespace Ov
open PySem L2 PySem.Spec PyProof.Rows
/-! Calls where no repr is under way around: as FnOk, but the guards around are known to be none. -/
structure FnG (P : Program) (w : World) (K : PySem.W.Frag) (mg : Str → Option Value) (base : Heap) (k : Nat) (f : Addr) (fd : FuncData) (ps : List Str) (sp : Sp) : Prop where
  count : ∀ {vs H Q E}, sp vs H Q E → vs.length = ps.length
  go : ∀ {A : Around} {outer : List Env} {s : Shared} {H : Hp} {args : Args} {us : List Value} {vs : List V} {Q : VK} {E : XK}, A.guards = some [] → Room k A → Env0 P w K mg base A outer s H →
    BindsTo s fd args (ps.zip us) → Vals vs us → sp vs H Q E → codeAny (model P w) A (.call (.ref f) args) (CR L2.CX0 outer P w H s Q E) s
section
variable {P : Program} {w : World} {K : PySem.W.Frag} {mg : Str → Option Value} {base : Heap}
theorem guards_in {A : Around} {e : Env} (h : A.guards = some []) : (A.deeper e).guards = some [] := h
theorem Fun.okG {x qual : Str} {st : Stmt} {f : Addr} {fd : FuncData} {N ps : List Str} {k : Nat} {sp : Sp} (F : Fun K x qual st f fd) (S : FnScope N ps (defScope st))
    (len : ∀ vs H Q E, sp vs H Q E → vs.length = ps.length)
    (body : ∀ (cd : Value) (A : Around) (outer : List Env) (s : Shared) (H : Hp) (vs : List V) (Q : VK) (E : XK), A.guards = some [] →
      Room k (A.deeper (envOfC qual (defScope st) s.heap.objs.size f cd)) → sp vs H Q E →
      ∃ t, PSs (cxOf L2.CX0 P w K mg base N qual (defScope st) f cd A outer s H E).nox (defBody st) t ∧ t { nx := fun _ H' => Q .non H', rt := Q } (start N vs) H) :
    FnG P w K mg base (k + 1) f fd ps sp := by
  obtain ⟨_, _, _, _, _, _, cd, _, _, rfl, lk, hcd⟩ := F.ex
  refine ⟨fun h => len _ _ _ _ h, ?_⟩
  intro A outer s H args us vs Q E hg hr e0 hb r hsp
  have up : ∀ b o, base.get? b = some o → s.heap.get? b = some o := fun b o e => (e0.bs b o e).1
  have kin := e0.mod.kin.keeps up
  refine codeAny_call_function hr.depth (kin _ _ lk) rfl S.co S.gen rfl (PySem.W.codeRec_of kin hcd) (hb _ _ _ _ ?_)
  refine wpAny_newFunctionEnv_cells S.kind (fun y hy => (S.par y.1 (List.of_mem_zip hy).1).imp id fun q => And.intro q (PySem.W.cellsFrom_some _ _ _ (.inl q))) ?_
  intro env he s1 x
  cases he
  refine ⟨(e0.mod.nolimit.keeps up).keeps x.toInCall.keep, codeAny_func ?_⟩
  obtain ⟨t, ht, hq⟩ := body cd A outer s H vs Q E hg (hr.deeper _) hsp
  refine wpAny_mono (ht.nox.run _ _ _ _ _ (inv_start S hr.hd e0 (len _ _ _ _ hsp) r x) hq) ?_ fun _ _ z => z
  intro fl s' hs
  match fl, hs with
  | .ret u, ⟨v, _, H', J, rv, q⟩ => exact ⟨v, H', J.os, J.bare, J.base, J.hok, rv, q⟩
  | .next, ⟨_, H', J, q⟩ => exact ⟨.non, H', J.os, J.bare, J.base, J.hok, rfl, q⟩
  | .brk, ⟨_, _, _, q⟩ => exact q.elim
  | .cont, ⟨_, _, _, q⟩ => exact q.elim
end
section
variable {X : Cx} {k : Nat} {f : Addr} {fd : FuncData} {ps : List Str} {sp : Sp} {x : Str} {p pos : Pos} {e : Expr} {es : List Expr} {t : TA}
def tCallG (sp : Sp) (t : TA) : TE := fun σ H Q => t σ H fun vs H1 => sp vs H1 Q L2.E0
theorem pe_callG (F : FnG X.prog X.w X.K X.mg X.base k f fd ps sp) (hg : X.A.guards = some []) (hr : Room k X.A) (gl : Gl X x) (hm : X.mg x = some (.ref f)) (hk : PySem.W.keepIn X.K (.ref f) = true) (hb : Binds X.K fd ps [])
    (ha : PA X (e :: es) t) (hdb : (x == ("__debug__" : Str)) = false := by decide) (he : starEach (e :: es) X.env = (false, eval e X.env) :: starEach es X.env := by rfl) (hpl : (backTo pos (starEach es X.env)).any (·.1) = false := by rfl) :
    PE X (.Call (.Name x p) (e :: es) [] pos) (tCallG sp t) := by
  refine ⟨fun pins s σ H Q I h => wpAny_Call_Name_kw (ld_glob I gl hm ?_ hdb)⟩
  refine PySem.W.callWith_K (h₀ := X.base) I.ok.mod.kin hk (thn (ha.run pos pins s σ H _ I h) ?_) he hpl
  rintro us s1 ⟨vs, H1, J, r, q⟩
  refine ⟨J.kIn, ?_⟩
  have n : us.length = ps.length := r.length.symm.trans (F.count q)
  have b := hb s1 us J.kIn (by rw [List.append_nil, n])
  rw [List.append_nil] at b
  refine wpAny_call (codeAny_mono (F.go hg hr J.env0 b r q) ?_)
  intro z s' hz
  match z, hz with
  | .error _, hz => exact False.elim hz
  | .ok (.ret _), hz => exact J.after hz
  | .ok .next, hz => exact False.elim hz
  | .ok .brk, hz => exact False.elim hz
  | .ok .cont, hz => exact False.elim hz
end
/-! repr of data -/
section
variable {X : Cx}
def rRepr (K : PySem.W.Frag) : List V → Hp → VK → Prop := fun vs H Q => ∃ (a : Addr) (d : PyData), vs = [.ref a] ∧ Dp K H (.ref a) d ∧ d.showable = true ∧ d.hasDict = false ∧ d.depth ≤ 60 ∧ d.shown.length ≤ sizeLine ∧ Q (.str d.shown) H
theorem call_reprD (hg : X.A.guards = some []) (hu : X.A.units + 64 < cLine) : CallR X (.builtin "repr") (rRepr X.K) := by
  intro pins s σ H xs us Q I r h
  obtain ⟨a, d, rfl, hd, hs, hn, hp, hz, q⟩ := h
  obtain ⟨u, rfl, e⟩ := vals1 r
  obtain rfl : u = Value.ref a := e
  obtain ⟨as, rd⟩ := Dp.reads I d _ _ hd rfl
  refine PySem.repr_of_reads' rd hs (PyData.noDict_hsm hn) hg (by omega) (fun _ _ e => e) (fun h' t tk hk => ?_) hz
  exact ⟨.str _, H, I.kept fun b o eo => hk b o eo, ⟨_, rfl⟩, q⟩
end
/-! the head, for FnG: the script alone is tracked (or it is one of the module's own objects) -/
section
variable {P : Program} {w : World} {K : PySem.W.Frag} {mg mb : Str → Option Value} {k : Nat} {fa a : Addr} {fd : FuncData} {x : Str} {sp : Sp} {s : Shared} {vs : List Value} {ns : List Int}
def scriptH (K : PySem.W.Frag) (a : Addr) (vs : List Value) (ns : List Int) : Hp := fun b => if b = a ∧ K.lookup a = none then some (.frz { cls := .type "list", data := .seq vs.toArray } (.lst (ns.map V.int))) else none
theorem scriptH_at {b : Addr} {o : HO} (h : scriptH K a vs ns b = some o) : b = a ∧ K.lookup a = none ∧ o = .frz { cls := .type "list", data := .seq vs.toArray } (.lst (ns.map V.int)) := by
  unfold scriptH at h
  split at h
  · rename_i q
    cases h
    exact ⟨q.1, q.2, rfl⟩
  · cases h
theorem headG (kin : K.In s.heap) (hns : s.heap.Ns mainGlobals mg) (hb : s.heap.Ns builtinsNs mb) (hbb : ∀ y : Str, y ≠ "__name__" → mb y = bootBuiltins y) (lim : s.heap.NoLimit) (hg : s.gens = #[])
    (ha : s.heap.get? a = some { cls := .type "list", data := .seq vs.toArray }) (hi : IntsAre vs ns) (hl : ns.length ≤ sizeLine) (hr : Room k callerA)
    (F : ∀ base : Heap, K.In base → base.Ns mainGlobals mg → FnG P w K mg base k fa fd [x] sp) (bind : ∀ (s : Shared) (u : Value), BindsTo s fd ⟨[u], []⟩ [(x, u)])
    (hsp : ∀ H : Hp, SqL K H a (ns.map V.int) → sp [.ref a] H (fun v _ => v = .bl true) fun _ _ _ => False) :
    codeAny (model P w) callerA (.call (.ref fa) ⟨[.ref a], []⟩) (fun r s' => r = .ok (.ret (.bool true)) ∧ OldK s.heap s'.heap ∧ s'.os = s.os ∧ AllBare s'.gens) s := by
  have rv := vals_ints hi
  have nk : ∀ {b o}, scriptH K a vs ns b = some o → K.lookup b = none := fun h => by
    obtain ⟨rfl, q, _⟩ := scriptH_at h
    exact q
  have hok : HOk P w (scriptH K a vs ns) s.heap := by
    intro b o h
    obtain ⟨rfl, _, rfl⟩ := scriptH_at h
    exact ⟨ha, by rw [List.length_map]; exact hl, vs, _, rv, ha⟩
  have hS : SqL K (scriptH K a vs ns) a (ns.map V.int) := by
    cases q : K.lookup a with
    | none => exact .inl (.inr ⟨_, if_pos ⟨rfl, q⟩⟩)
    | some o =>
      have e := kin a o q
      rw [ha] at e
      cases e
      exact .inr ⟨_, vs.toArray, _, q, rfl, rfl, rfl, by rw [List.size_toArray, hi.length]; exact hl, by simpa using rv⟩
  have dict : ∀ {b : Addr} {o : Obj} {es : Array DictEntry} {ep : Nat}, s.heap.get? b = some o → o.data = .dict es ep → scriptH K a vs ns b = none := fun {b o es ep} e d => by
    cases q : scriptH K a vs ns b with
    | none => rfl
    | some z =>
      obtain ⟨rfl, _, _⟩ := scriptH_at q
      rw [ha] at e
      cases e
      have d' : Data.seq vs.toArray _ = Data.dict es ep := d
      cases d'
  have ns' : ∀ {b : Addr} {m : Str → Option Value}, s.heap.Ns b m → (hidT s.heap (scriptH K a vs ns)).Ns b m := fun {b m} h => by
    obtain ⟨o, es, ep, e, d, r⟩ := h
    exact ⟨o, es, ep, hidT_get e (dict e d), d, r⟩
  have kin' : K.In (hidT s.heap (scriptH K a vs ns)) := fun b o e => by
    refine hidT_get (kin b o e) ?_
    cases q : scriptH K a vs ns b with
    | none => rfl
    | some z =>
      rw [nk q] at e
      cases e
  have e0 : Env0 P w K mg (hidT s.heap (scriptH K a vs ns)) callerA [] s (scriptH K a vs ns) := by
    obtain ⟨mc, h1, h2⟩ := lim
    exact ⟨rfl, ⟨kin', ns' hns, ⟨mb, ns' hb, hbb⟩, ⟨mc, ns' h1, h2⟩⟩, fun _ _ e => of_hidT e, Nat.le_of_eq (hidT_size _ _), trivial, (fun _ z => nomatch z), hok, .of_eq hg⟩
  refine codeAny_mono ((F _ kin' (ns' hns)).go (us := [.ref a]) (vs := [.ref a]) rfl hr e0 (bind s (.ref a)) (.cons rfl .nil) (hsp _ hS)) fun r s' h => ?_
  match r, h with
  | .error _, h => exact False.elim h
  | .ok .next, h => exact False.elim h
  | .ok .brk, h => exact False.elim h
  | .ok .cont, h => exact False.elim h
  | .ok (.ret u), ⟨v, H', os, bare, un, hok', r', q⟩ =>
    obtain rfl : v = .bl true := q
    obtain rfl : u = Value.bool true := r'
    refine ⟨rfl, OldK.of_keep fun b o e => ?_, os, bare⟩
    cases q : scriptH K a vs ns b with
    | none => exact un.keep b o e q (fun z => nomatch z) (fun z => nomatch z)
    | some z =>
      obtain ⟨rfl, _, rfl⟩ := scriptH_at q
      have e2 := (hok' _ _ (un.frzs _ _ _ q)).1
      rw [ha] at e
      cases e
      exact e2
theorem walkG {l : PySem.W.OpenLaw} {n k : Nat} {q : Program} {loose : List Str} {XP : (Str → Option Value) → Heap → Prop} {YP : World → Heap → Prop} {d : DefRec} {K : Params → PySem.W.Frag} {sp : World → Sp} {x : Str}
    (hn : l.most = some n) (hn2 : n ≤ sizeLine) (hdf : d.params.defaults = []) (hr : Room k callerA) (hY : ∀ (w : World) (h : Heap), YP w h → (K w.params).In h)
    (F : ∀ (w : World) (mg : Str → Option Value) (fa : Addr) (h : Heap), (K w.params).In h → h.Ns mainGlobals mg → mg d.name = some (.ref fa) →
      ∃ fd : FuncData, (∀ (s : Shared) (u : Value), BindsTo s fd ⟨[u], []⟩ [(x, u)]) ∧ ∀ base : Heap, (K w.params).In base → base.Ns mainGlobals mg → FnG l.prog w (K w.params) mg base k fa fd [x] (sp w))
    (hsp : ∀ (w : World) (H : Hp) (a : Addr) (ns : List Int), ns.length ≤ n → SqL (K w.params) H a (ns.map V.int) → sp w [.ref a] H (fun v _ => v = .bl true) fun _ _ _ => False) :
    PySem.W.WalkO q loose XP YP l.row.toRowW d [] (fun f vs => PySem.call f vs) := by
  refine Att.attach_call hn hdf ?_
  intro w s₀ s₁ mg mb fa o pm cd doc a vs ns G Y ho hd hcd hmg hobj hi hlen hg
  obtain ⟨fd, hb, hF⟩ := F w mg fa _ (hY w _ Y) G.T.g hmg
  exact headG (hY w _ Y) G.T.g G.T.b G.T.builtins G.T.nolimit hg hobj hi (Nat.le_trans hlen hn2) hr hF hb fun H hS => hsp w H a ns hlen hS
end
end Ov

set_option Elab.async false
set_option linter.all false
set_option maxRecDepth 100000
set_option maxHeartbeats 4000000
namespace Ov
open PySem L2 PySem.Spec PyProof.Rows
/-! len(set(t)), t a tuple of numbers -/
section
variable {X : Cx}
def tLenSetT (K : PySem.W.Frag) (ta : TE) : TE := fun σ H Q => ta σ H fun x H1 => ∃ (l : Addr) (ns : List Int), x = V.ref l ∧ SqT K H1 l (ns.map V.int) ∧ ns.length ≤ 1000 ∧
  ∀ out : List Int, out.Nodup → (∀ k, k ∈ out ↔ k ∈ ns) → Q (.int out.length) H1
theorem pe_lenSetT {a : Expr} {ta : TE} {p p2 q pos : Pos} (hc : X.calm = true) (hg : Gl X "len") (hm : X.mg "len" = none) (hg2 : Gl X "set") (hm2 : X.mg "set" = none) (ha : PE X a ta)
    (na : starEach [a] X.env = (false, eval a X.env) :: starEach [] X.env := by rfl) : PE X (.Call (.Name "len" p) [.Call (.Name "set" p2) [a] [] q] [] pos) (tLenSetT X.K ta) := by
  refine ⟨fun pins s σ H Q I h => Call_ (ld_blt I hg hm PySem.boot_len (callWith_builtin1 (args_cons (Call_ (ld_blt I hg2 hm2 boot_set (callWith_type1 (args_cons ?_ na) na rfl))) rfl) rfl rfl))⟩
  refine thn (ha.run pins s σ H _ I h) ?_
  rintro v s1 ⟨x, H1, J, r, l, ns, rfl, hq, hn, k⟩
  cases r
  refine args_nil ?_
  obtain ⟨its, rv, pt, hz⟩ := J.tuple hq
  have hi : IntsAre its.toArray.toList ns := ints_of_vals rv
  refine call_set_tupI ns (J.ok.hd hc) pt hi (by unfold scanBound; omega) ?_
  rintro h' tk c ⟨o, es, ep, t, ho, ex, hd, _, nd, mem, hb, hf, hs, _, _⟩ hcn kp
  refine args_nil ?_
  have e := k (es.toList.map keyOf) nd fun j => by rw [← mem j, decide_eq_true_eq]
  rw [List.length_map, Array.length_toList] at e
  exact call_len_set ho ex hd hf (by rw [hs]; omega) ⟨.int es.size, H1, (J.kept kp).tok _, ⟨_, rfl⟩, e⟩
end
/-! t[::-1], t a tuple -/
section
variable {prog : Program} {w : World} {A : Around} {E : Value → Shared → Prop} {s : Shared}
theorem fm_congr {α β : Type} {f g : α → Option β} : ∀ {l : List α}, (∀ x ∈ l, f x = g x) → l.filterMap f = l.filterMap g
  | [], _ => rfl
  | x :: l, h => by rw [List.filterMap_cons, List.filterMap_cons, h x (List.mem_cons_self ..), fm_congr fun y hy => h y (List.mem_cons_of_mem _ hy)]
theorem rev_pick (xs : Array Value) : ((List.range xs.size).filterMap fun (m : Nat) => xs[((xs.size : Int) - 1 + (m : Int) * (-1)).toNat]?).toArray = xs.toList.reverse.toArray := by
  rw [← PySem.W.krv_pick xs]
  unfold slicePick
  rw [PySem.W.krv_bounds]
  show _ = ((sliceRange ((xs.size : Int) - 1) (-1) (-1)).filterMap (xs[·]?)).toArray
  rw [PySem.W.krv_sliceRange, List.filterMap_map]
  refine congrArg List.toArray (fm_congr fun k hk => ?_)
  have := List.mem_range.mp hk
  show xs[((xs.size : Int) - 1 + (k : Int) * (-1)).toNat]? = xs[xs.size - 1 - k]?
  rw [show ((xs.size : Int) - 1 + (k : Int) * (-1)).toNat = xs.size - 1 - k by omega]
theorem applied_rev {sl : Addr} {vl vu vs : Value} {n : Nat} {Q : Int × Int × Nat → Shared → Prop} (hs : s.heap.IsSliceOf sl vl vu vs) (pl : IsPart vl none) (pu : IsPart vu none) (ps : IsPart vs (some (-1)))
    (h : Q ((n : Int) - 1, -1, n) s) : wpAny (model prog w) A (Builtin.Slice.sliceApplied (.ref sl) (pure (n : Int))) Q E s := by
  obtain ⟨os, hos, _, hds⟩ := hs
  unfold Builtin.Slice.sliceApplied Builtin.Slice.sliceFields
  refine wpAny_bind (wpAny_bind (wpAny_field hos hds (x := vl) rfl (wpAny_bind (wpAny_field hos hds (x := vu) rfl (wpAny_bind (wpAny_field hos hds (x := vs) rfl (wpAny_pure ?_)))))))
  refine wpAny_bind (HT.slicePart_ ps ?_)
  show wpAny _ _ (if ((-1 : Int) == 0) = true then _ else _) _ _ s
  rw [if_neg (by decide)]
  refine wpAny_bind (HT.slicePart_ pl (wpAny_bind (HT.slicePart_ pu (wpAny_bind (wpAny_pure ?_)))))
  have e1 : Builtin.Slice.sliceAdjust none none (-1) (n : Int) = ((n : Int) - 1, -1) := by
    unfold Builtin.Slice.sliceAdjust
    simp
  have e2 : Builtin.Slice.slicePlaces ((n : Int) - 1) (-1) (-1) = n := by
    unfold Builtin.Slice.slicePlaces
    simp
    try omega
  show wpAny _ _ (match Builtin.Slice.sliceAdjust none none (-1) (n : Int) with | (lo, hi) => pure (lo, (-1 : Int), Builtin.Slice.slicePlaces lo hi (-1))) _ _ s
  rw [e1]
  show wpAny _ _ (pure ((n : Int) - 1, (-1 : Int), Builtin.Slice.slicePlaces ((n : Int) - 1) (-1) (-1))) _ _ s
  rw [e2]
  exact wpAny_pure h
theorem item_rev {t sl : Addr} {items : Array Value} {vl vu vs : Value} {Q : Value → Shared → Prop} (ht : IsTup s.heap t items) (hs : s.heap.IsSliceOf sl vl vu vs) (pl : IsPart vl none) (pu : IsPart vu none) (ps : IsPart vs (some (-1)))
    (h : Q (.ref s.heap.objs.size) { s with heap := s.heap.push { cls := .type "tuple", data := .seq items.toList.reverse.toArray } }) (hz : items.size ≤ sizeLine) : wpAny (model prog w) A (getItem (.ref t) (.ref sl)) Q E s := by
  have tS : s.TypeIs (.ref sl) "slice" := by
    obtain ⟨os, hos, hcs, _⟩ := hs
    exact ⟨os, hos, hcs⟩
  have fit : sizeOk (.seq items.toList.reverse.toArray) := by
    show items.toList.reverse.toArray.size ≤ sizeLine
    rw [List.size_toArray, List.length_reverse, Array.length_toList]
    exact hz
  unfold getItem
  try with_reducible refine wpAny_holding ?_
  first | refine wpAny_bind (wpAny_pure ?_) | skip
  refine wpAny_bind (wpAny_sequenceKey ht.typeIs (by decide) (wpAny_bind (wpAny_callSpecial?_slot (name := Str.ofString "__getitem__") ht.typeIs slot_tuple_getitem ?_)))
  refine wpAny_call_entry slot_tuple_getitem ht.typeIs entry_tuple_getitem ?_ (args_tuple_getitem _ _)
  show wpAny _ _ (Builtin.Tuple.tupleItemsOf (.ref t) >>= _) _ _ s
  refine wpAny_bind (tupleItemsOf_ ht (wpAny_bind (wpAny_typeOf tS ?_)))
  rw [if_pos (by decide)]
  refine wpAny_bind (applied_rev hs pl pu ps ?_)
  have no : ¬ ((((items.size : Int) - 1) == 0 && (-1 : Int) == 1 && items.size == items.size) = true) := fun q => by
    rw [Bool.and_eq_true, Bool.and_eq_true] at q
    exact absurd q.1.2 (by decide)
  show wpAny _ _ (if (((items.size : Int) - 1) == 0 && (-1 : Int) == 1 && items.size == items.size) = true then _ else _) _ _ s
  rw [if_neg no, rev_pick]
  first
    | exact wpAny_bind (m := Builtin.Tuple.tupleExact _) (wpAny_newObj_type (wpAny_pure ⟨_, rfl, wpAny_pure h⟩) fit)
    | exact wpAny_bind (wpAny_bind (m := Builtin.Tuple.tupleExact _) (wpAny_newObj_type (wpAny_pure ⟨_, rfl, wpAny_pure h⟩) fit))
end
section
variable {X : Cx}
def tRevW (K : PySem.W.Frag) (te : TE) : TE := fun σ H Q => te σ H fun x H1 => ∃ (a : Addr) (xs : List V), x = .ref a ∧
  ((SqL K H1 a xs ∧ ∀ p H', Same H1 H' → H1 p = none → H' p = some (.lst xs.reverse) → Q (.ref p) H') ∨ (SqT K H1 a xs ∧ ∀ p H', Same H1 H' → H1 p = none → H' p = some (.tup xs.reverse) → Q (.ref p) H'))
theorem pe_revW {e : Expr} {te : TE} {k : Nat} {p1 p2 p3 pos : Pos} (he : PE X e te) : PE X (.Subscript e (.Slice none none (some (.UnaryOp .USub (.Constant (.int 1) k p1) p2)) p3) pos) (tRevW X.K te) := by
  refine ⟨fun pins s σ H Q I h => Subscript_ (thn (he.run pins s σ H _ I h) ?_)⟩
  rintro v s1 ⟨x, H1, I1, r1, a, xs, rfl, q⟩
  cases r1
  have none_ : ∀ {s' : Shared} {G : Hp} (J : Inv X pins σ G s'), wpAny (model X.prog X.w) X.A (evalPart none X.env) (fun v s2 => IsPart v none ∧ Inv X pins σ G s2) X.xe s' := fun {s' G} J =>
    thn (po_none.run pins s' σ G (fun o H2 => o = none ∧ H2 = G) J ⟨rfl, rfl⟩) fun v s2 ⟨l, H2, J2, pl, el, e2⟩ => by
      subst el e2
      exact ⟨pl, J2⟩
  have st : PO X (some (.UnaryOp .USub (.Constant (.int 1) k p1) p2)) (tPart (tUn (rU fun i => .int (-i)) (tC (.int 1)))) := po_some (pe_un un_neg pe_int)
  refine wpAny_Slice (thn (none_ I1) ?_)
  rintro vl s2 ⟨pl, I2⟩
  refine thn (none_ I2) ?_
  rintro vu s3 ⟨pu, I3⟩
  refine thn (st.run pins s3 σ H1 (fun o H4 => o = some (-1) ∧ H4 = H1) I3 ⟨1, rfl, -1, rfl, rfl, rfl⟩) ?_
  rintro vs s4 ⟨o, H4, I4, ps, rfl, rfl⟩
  have I5 : Inv X pins σ H4 { s4 with heap := s4.heap.push { cls := .type "slice", data := .fields #[vl, vu, vs] } } := I4.kept (t' := s4.toks) fun b ob z => Heap.get?_push_of_some _ z
  rcases q with ⟨hx, q⟩ | ⟨hx, q⟩
  · obtain ⟨its, r, ht, hz⟩ := I5.list hx
    refine tail_any (ops := [.ref a, .ref s4.heap.objs.size]) ht.isList.typeIs PySem.slot_list_getitem.lookup ?_ (by with_unfolding_all rfl)
    refine wpAny_getItem_list_slice ht.isList (Heap.IsSliceOf.new _ vl vu vs) pl pu ps (by decide) ?_ (by rw [List.size_toArray, ← r.length]; exact hz)
    rw [PySem.W.krv_pick]
    have fr := I5.hok.fresh (Nat.le_refl _)
    exact ⟨.ref _, _, I5.laid (t' := s4.toks) (o := .lst xs.reverse) (fun b ob z => Heap.get?_push_of_some _ z) (Nat.le_refl _) ⟨by rw [List.length_reverse]; exact hz, _, 0, r.reverse, Heap.get?_push_size _ rfl⟩, rfl, q _ _ (same_new fr _) fr upd_same⟩
  · obtain ⟨its, r, ht, hz⟩ := I5.tuple hx
    refine tail_any (ops := [.ref a, .ref s4.heap.objs.size]) ht.typeIs slot_tuple_getitem.lookup ?_ (by with_unfolding_all rfl)
    refine item_rev ht (Heap.IsSliceOf.new _ vl vu vs) pl pu ps ?_ (by rw [List.size_toArray, ← r.length]; exact hz)
    have fr := I5.hok.fresh (Nat.le_refl _)
    exact ⟨.ref _, _, I5.laid (t' := s4.toks) (o := .tup xs.reverse) (fun b ob z => Heap.get?_push_of_some _ z) (Nat.le_refl _) ⟨by rw [List.length_reverse]; exact hz, _, r.reverse, IsTup.new _ _⟩, rfl, q _ _ (same_new fr _) fr upd_same⟩
end
end Ov

set_option Elab.async false
set_option linter.all false
set_option maxRecDepth 100000
set_option maxHeartbeats 4000000
namespace Ov
open PySem L2 PySem.Spec PyProof.Rows
/-! enumerate(v), enumerate(v, start=k), v a list or a tuple that stays as it is -/
def ItW (S : Hp → Prop) (k : Int) (xs : List V) : It :=
  ⟨fun i H => S H ∧ i < xs.length, fun i H v H' => ∃ T x, v = .ref T ∧ H T = none ∧ H' = upd H T (.tup [.int (k + (i : Int)), x]) ∧ xs[i]? = some x, fun i H => S H ∧ i = xs.length⟩
theorem walk_itW {S : Hp → Prop} {k : Int} {xs : List V} : Walk (ItW S k xs) xs.length S (YPair (fun i => some (.int (k + (i : Int)))) (fun i => xs[i]?)) :=
  ⟨fun _ _ hi q => ⟨q, hi⟩, fun _ q => ⟨q, rfl⟩, fun i H v H' _ _ ⟨T, x, h1, h2, h3, h4⟩ => ⟨T, _, x, h1, h2, h3, rfl, h4⟩⟩
theorem turn_enumL {P : Program} {w : World} {K : PySem.W.Frag} {elts : List Expr} {kk : Nat} {tpos : Pos} {a e it : Addr} {k : Int} {xs : List V} (ai : a ≠ it) (ei : e ≠ it) (ea : e ≠ a) :
    Turn P w K (.Tuple elts kk tpos) (ItW (fun H => SqL K H a xs) k xs) [e, it] e (fun i h => (∃ old, IsEnum h e it (k + (i : Int)) old) ∧ h.IsListIter it a i) where
  mem := by simp
  obj := fun i h st b hb => by
    obtain ⟨⟨_, he⟩, o, ho, _, hd⟩ := st
    rcases List.mem_cons.mp hb with rfl | hb
    · exact ⟨_, he, fun v q => nomatch q⟩
    · rw [List.mem_singleton.mp hb]
      exact ⟨o, ho, fun v q => by rw [hd] at q; cases q⟩
  keep := fun i h h' st kp => ⟨st.1.imp fun _ he => kp e (by simp) _ he, st.2.at fun o q => kp it (by simp) o q⟩
  item := by
    intro X hP hw hK hc i pins s σ H E I hf st hg
    subst hP hw hK
    obtain ⟨⟨old, he⟩, hit⟩ := st
    have hil : i < xs.length := hg.2
    obtain ⟨its, rv, p, hz⟩ := I.list hg.1
    have D := Draws.list (prog := X.prog) (w := X.w) (A := X.A.in1) (I.ok.hd hc) it a ai its.toArray
    have hi : i < its.toArray.size := by rw [List.size_toArray, ← rv.length]; exact hg.2
    have lt1 : e < s.heap.objs.size := Heap.lt_size he
    have lt2 : it < s.heap.objs.size := by
      obtain ⟨_, q, _⟩ := hit
      exact Heap.lt_size q
    refine wpAny_pyNext_enum_itemC D he ⟨hit, p.isList⟩ hi ei (by simp [ei, ea]) ?_
    intro u h' tk hu ho hst hT hsz kp
    have hx : xs[i]? = some xs[i] := List.getElem?_eq_getElem hil
    obtain ⟨u', hu', ru⟩ := rv.get hx
    have eu : u' = u := Option.some.inj (hu'.symm.trans (by simpa using hu))
    subst eu
    refine ⟨_, rfl, wpAny_letOwnedTupleGo_enum (s := { s with heap := h', toks := tk + 1 }) ho fun h2 he2 sb => ?_⟩
    have new : ObjOk X.prog X.w (upd H s.heap.objs.size (.tup [.int (k + (i : Int)), xs[i]])) h2 s.heap.objs.size (.tup [.int (k + (i : Int)), xs[i]]) :=
      ⟨by show 2 ≤ sizeLine; decide, [.int (k + (i : Int)) tk, u'], .cons ⟨_, rfl⟩ (.cons ru .nil), ⟨_, (sb.2 _ (Nat.ne_of_gt lt1)).trans hT, rfl, _, rfl⟩⟩
    have J := I.turnedNew (t' := tk + 1) (ch := [e, it]) (h' := h2) (fun b ob hb q => (sb.2 b fun z => hb (by simp [z])).trans (kp b ob (fun z => hb (by simp [z])) (fun z => hb (by simp [z])) q)) hf (Nat.le_refl _) new
    refine ⟨.ref s.heap.objs.size, _, J, rfl, ⟨_, xs[i], rfl, I.hok.fresh (Nat.le_refl _), rfl, hx⟩, ⟨⟨u', ?_⟩, hst.1.at fun o q => (sb.2 it (Ne.symm ei)).trans q⟩, fun b hb => ?_⟩
    · rw [show k + ((i + 1 : Nat) : Int) = k + (i : Int) + 1 by omega]
      exact he2
    · have lt : b < s.heap.objs.size := by
        rcases List.mem_cons.mp hb with z | z
        · rw [z]; exact lt1
        · rw [List.mem_singleton.mp z]; exact lt2
      rw [upd_ne (Nat.ne_of_lt lt)]
      exact (hf b hb).1
  done := by
    intro X hP hw hK hc i pins s σ H E I hf st hg
    subst hP hw hK
    obtain ⟨⟨old, he⟩, hit⟩ := st
    obtain ⟨hs, rfl⟩ := hg
    obtain ⟨its, rv, p, hz⟩ := I.list hs
    have D := Draws.list (prog := X.prog) (w := X.w) (A := X.A.in1) (I.ok.hd hc) it a ai its.toArray
    obtain ⟨f0, f1, f2, f3, f4, f5⟩ := hf it (by simp)
    have n : its.toArray.size = xs.length := by rw [List.size_toArray, ← rv.length]
    exact wpAny_pyNext_enum_endD D he ⟨n ▸ hit, p.isList⟩ fun h' eb => ⟨rfl, I.turned (t' := s.toks) (fun b o hb q => eb b o hb q) f0 f1 f3 f4 f5⟩
  self := fun A i s Q E st h => st.1.elim fun _ he => wpAny_pyIter_enum he h
theorem turn_enumT {P : Program} {w : World} {K : PySem.W.Frag} {elts : List Expr} {kk : Nat} {tpos : Pos} {a e it : Addr} {k : Int} {xs : List V} (ai : a ≠ it) (ei : e ≠ it) (ea : e ≠ a) :
    Turn P w K (.Tuple elts kk tpos) (ItW (fun H => SqT K H a xs) k xs) [e, it] e (fun i h => (∃ old, IsEnum h e it (k + (i : Int)) old) ∧ h.IsTupleIter it a i) where
  mem := by simp
  obj := fun i h st b hb => by
    obtain ⟨⟨_, he⟩, o, ho, _, hd⟩ := st
    rcases List.mem_cons.mp hb with rfl | hb
    · exact ⟨_, he, fun v q => nomatch q⟩
    · rw [List.mem_singleton.mp hb]
      exact ⟨o, ho, fun v q => by rw [hd] at q; cases q⟩
  keep := fun i h h' st kp => ⟨st.1.imp fun _ he => kp e (by simp) _ he, st.2.at fun o q => kp it (by simp) o q⟩
  item := by
    intro X hP hw hK hc i pins s σ H E I hf st hg
    subst hP hw hK
    obtain ⟨⟨old, he⟩, hit⟩ := st
    have hil : i < xs.length := hg.2
    obtain ⟨its, rv, p, hz⟩ := I.tuple hg.1
    have D := Draws.tuple (prog := X.prog) (w := X.w) (A := X.A.in1) (I.ok.hd hc) it a ai its.toArray
    have hi : i < its.toArray.size := by rw [List.size_toArray, ← rv.length]; exact hg.2
    have lt1 : e < s.heap.objs.size := Heap.lt_size he
    have lt2 : it < s.heap.objs.size := by
      obtain ⟨_, q, _⟩ := hit
      exact Heap.lt_size q
    refine wpAny_pyNext_enum_itemC D he ⟨hit, p⟩ hi ei (by simp [ei, ea]) ?_
    intro u h' tk hu ho hst hT hsz kp
    have hx : xs[i]? = some xs[i] := List.getElem?_eq_getElem hil
    obtain ⟨u', hu', ru⟩ := rv.get hx
    have eu : u' = u := Option.some.inj (hu'.symm.trans (by simpa using hu))
    subst eu
    refine ⟨_, rfl, wpAny_letOwnedTupleGo_enum (s := { s with heap := h', toks := tk + 1 }) ho fun h2 he2 sb => ?_⟩
    have new : ObjOk X.prog X.w (upd H s.heap.objs.size (.tup [.int (k + (i : Int)), xs[i]])) h2 s.heap.objs.size (.tup [.int (k + (i : Int)), xs[i]]) :=
      ⟨by show 2 ≤ sizeLine; decide, [.int (k + (i : Int)) tk, u'], .cons ⟨_, rfl⟩ (.cons ru .nil), ⟨_, (sb.2 _ (Nat.ne_of_gt lt1)).trans hT, rfl, _, rfl⟩⟩
    have J := I.turnedNew (t' := tk + 1) (ch := [e, it]) (h' := h2) (fun b ob hb q => (sb.2 b fun z => hb (by simp [z])).trans (kp b ob (fun z => hb (by simp [z])) (fun z => hb (by simp [z])) q)) hf (Nat.le_refl _) new
    refine ⟨.ref s.heap.objs.size, _, J, rfl, ⟨_, xs[i], rfl, I.hok.fresh (Nat.le_refl _), rfl, hx⟩, ⟨⟨u', ?_⟩, hst.1.at fun o q => (sb.2 it (Ne.symm ei)).trans q⟩, fun b hb => ?_⟩
    · rw [show k + ((i + 1 : Nat) : Int) = k + (i : Int) + 1 by omega]
      exact he2
    · have lt : b < s.heap.objs.size := by
        rcases List.mem_cons.mp hb with z | z
        · rw [z]; exact lt1
        · rw [List.mem_singleton.mp z]; exact lt2
      rw [upd_ne (Nat.ne_of_lt lt)]
      exact (hf b hb).1
  done := by
    intro X hP hw hK hc i pins s σ H E I hf st hg
    subst hP hw hK
    obtain ⟨⟨old, he⟩, hit⟩ := st
    obtain ⟨hs, rfl⟩ := hg
    obtain ⟨its, rv, p, hz⟩ := I.tuple hs
    have D := Draws.tuple (prog := X.prog) (w := X.w) (A := X.A.in1) (I.ok.hd hc) it a ai its.toArray
    obtain ⟨f0, f1, f2, f3, f4, f5⟩ := hf it (by simp)
    have n : its.toArray.size = xs.length := by rw [List.size_toArray, ← rv.length]
    exact wpAny_pyNext_enum_endD D he ⟨n ▸ hit, p⟩ fun h' eb => ⟨rfl, I.turned (t' := s.toks) (fun b o hb q => eb b o hb q) f0 f1 f3 f4 f5⟩
  self := fun A i s Q E st h => st.1.elim fun _ he => wpAny_pyIter_enum he h
set_option maxHeartbeats 4000000 in
theorem meets_enum1 {v : Value} {o : Obj} {H : Heap → Prop} (B : Begins v o H) :
    Meets (Builtin.«enumerate.__new__» ⟨[.type "enumerate", v], []⟩) (fun _ R s => H s.heap ∧
      R (.ok (.ret (.ref (s.heap.push o).objs.size))) { s with heap := (s.heap.push o).push { cls := .type "enumerate", data := .fields #[.none, .bool false, .ref s.heap.objs.size, rawInt 0, .none, .none] } }) :=
  .of_wp fun prog w A R s h => by
    obtain ⟨hp, g, d, tk, os⟩ := s
    obtain ⟨h1, h⟩ := h
    have hsub := sub_enumerate
    have it1 : ∀ {A' : Around} {E : Value → Shared → Prop} {Q : Value → Shared → Prop}, Q (.ref hp.objs.size) ⟨hp.push o, g, d, tk, os⟩ → wpAny (model prog w) A' (pyIter v) Q E ⟨hp, g, d, tk, os⟩ :=
      fun q => B.iter prog w _ _ ⟨hp, g, d, tk, os⟩ _ h1 q
    wp_walk using it1
    refine wpAny_stack_any fun st => wpAny_pure ?_
    split
    · rename_i c _ _ _ _ _
      cases (c == Value.type "enumerate") <;> (wp_walk using it1; exact ⟨_, rfl, h⟩)
    · wp_walk using it1
      exact ⟨_, rfl, h⟩
section
variable {prog : Program} {w : World} {A : Around} {E : Value → Shared → Prop} {s : Shared}
theorem enum1 {v : Value} {o : Obj} {H : Heap → Prop} {Q : Value → Shared → Prop} (B : Begins v o H) (h1 : H s.heap)
    (h : ∀ h', IsEnum h' (s.heap.objs.size + 1) s.heap.objs.size 0 .none → h'.get? s.heap.objs.size = some o → (∀ b o, s.heap.get? b = some o → h'.get? b = some o) → Q (.ref (s.heap.objs.size + 1)) { s with heap := h' }) :
    wpAny (model prog w) A (call (.type "enumerate") [v]) Q E s := by
  refine callType_new F.called_enumerate (by decide) (F.typeCall_enumerate_1 _) (F.newCall_enumerate_1 _) (fun obj => F.args_object_init_2 obj _) F.entry_enumerate_new (meets_enum1 B) ⟨h1, ?_⟩
  have hz : (s.heap.push o).objs.size = s.heap.objs.size + 1 := Heap.size_push ..
  have he := Heap.get?_push_size (s.heap.push o) (o := { cls := .type "enumerate", data := .fields #[.none, .bool false, .ref s.heap.objs.size, rawInt 0, .none, .none] }) rfl
  rw [hz] at he
  show _ ∧ _
  rw [hz]
  exact ⟨⟨_, he, rfl⟩, h _ he (Heap.get?_push_of_some _ (Heap.get?_push_size _ B.free)) fun b o x => Heap.get?_push_of_some _ (Heap.get?_push_of_some _ x)⟩
end
section
variable {X : Cx} {pins : List (Addr × Obj)} {σ : L2.St} {elts : List Expr} {kk : Nat} {tpos : Pos} {R : It → Hp → Prop} {s : Shared} {H : Hp} {a : Addr} {k : Int} {xs : List V} {h' : Heap}
theorem fp2 (I : L2.Inv X pins σ H s) : ∀ b ∈ [s.heap.objs.size + 1, s.heap.objs.size], FpOk X pins H b := fun b hb => by
  have le : s.heap.objs.size ≤ b := by
    rcases List.mem_cons.mp hb with z | z
    · rw [z]; exact Nat.le_succ _
    · rw [List.mem_singleton.mp z]; exact Nat.le_refl _
  exact I.fpOk le (I.hok.fresh le)
theorem pieL (I : L2.Inv X pins σ H s) (hq : SqL X.K H a xs) (he : IsEnum h' (s.heap.objs.size + 1) s.heap.objs.size k .none) (ho : h'.get? s.heap.objs.size = some { cls := .type "list_iterator", data := .fields #[.ref a, .int 0 0] })
    (kp : ∀ b o, s.heap.get? b = some o → h'.get? b = some o) (q : R (ItW (fun H => SqL X.K H a xs) k xs) H) : PIE X pins σ (.Tuple elts kk tpos) R (.ref (s.heap.objs.size + 1)) { s with heap := h' } := by
  obtain ⟨its, rv, p, hz⟩ := I.list hq
  have lt : a < s.heap.objs.size := by
    obtain ⟨_, e, _⟩ := p.isList
    exact Heap.lt_size e
  exact ⟨_, [s.heap.objs.size + 1, s.heap.objs.size], _, _, H, rfl, I.kept (t' := s.toks) kp, turn_enumL (Nat.ne_of_lt lt) (Nat.succ_ne_self _) (Nat.ne_of_gt (Nat.lt_succ_of_lt lt)), ⟨⟨.none, by rw [show k + ((0 : Nat) : Int) = k by omega]; exact he⟩, _, ho, rfl, rfl⟩, fp2 I, q⟩
theorem pieT (I : L2.Inv X pins σ H s) (hq : SqT X.K H a xs) (he : IsEnum h' (s.heap.objs.size + 1) s.heap.objs.size k .none) (ho : h'.get? s.heap.objs.size = some { cls := .type "tuple_iterator", data := .fields #[.ref a, .int 0 0] })
    (kp : ∀ b o, s.heap.get? b = some o → h'.get? b = some o) (q : R (ItW (fun H => SqT X.K H a xs) k xs) H) : PIE X pins σ (.Tuple elts kk tpos) R (.ref (s.heap.objs.size + 1)) { s with heap := h' } := by
  obtain ⟨its, rv, p, hz⟩ := I.tuple hq
  have lt : a < s.heap.objs.size := by
    obtain ⟨_, e, _⟩ := p
    exact Heap.lt_size e
  exact ⟨_, [s.heap.objs.size + 1, s.heap.objs.size], _, _, H, rfl, I.kept (t' := s.toks) kp, turn_enumT (Nat.ne_of_lt lt) (Nat.succ_ne_self _) (Nat.ne_of_gt (Nat.lt_succ_of_lt lt)), ⟨⟨.none, by rw [show k + ((0 : Nat) : Int) = k by omega]; exact he⟩, _, ho, rfl, rfl⟩, fp2 I, q⟩
/-- what is walked: a list or a tuple, from the count k -/
def rEnW (K : PySem.W.Frag) (k : Int) (R : It → Hp → Prop) (a : Addr) (H : Hp) : Prop := ∃ xs : List V, (SqL K H a xs ∧ R (ItW (fun H => SqL K H a xs) k xs) H) ∨ (SqT K H a xs ∧ R (ItW (fun H => SqT K H a xs) k xs) H)
def iEnW (K : PySem.W.Frag) (ta : TA) : TI := fun σ H R => ta σ H fun vs H1 => ∃ a, vs = [.ref a] ∧ rEnW K 0 R a H1
theorem pi_enW {e : Expr} {ta : TA} {p pos : Pos} (hg : Gl X "enumerate") (hm : X.mg "enumerate" = none) (ha : PA X [e] ta) (hs : starEach [e] X.env = [(false, eval e X.env)] := by rfl) :
    PI X (.Tuple elts kk tpos) (.Call (.Name "enumerate" p) [e] [] pos) (iEnW X.K ta) := by
  refine ⟨fun pins s σ H R I h => Call_ (ld_blt I hg hm boot_enumerate (callWith_type1 (thn (ha.run pos pins s σ H _ I h) ?_) hs rfl))⟩
  rintro us s1 ⟨vs, H1, J, r, a, rfl, xs, q⟩
  obtain rfl := Vals.ref1 r
  rcases q with ⟨hq, q⟩ | ⟨hq, q⟩
  · obtain ⟨its, _, pl, _⟩ := J.list hq
    exact enum1 (begins_list a its.toArray) pl.isList fun h' he ho kp => wpAny_pyIter_enum he (pieL J hq he ho kp q)
  · obtain ⟨its, _, pt, _⟩ := J.tuple hq
    exact enum1 (begins_tuple a its.toArray) pt fun h' he ho kp => wpAny_pyIter_enum he (pieT J hq he ho kp q)
end
end Ov

set_option Elab.async false
set_option linter.all false
set_option maxRecDepth 100000
set_option maxHeartbeats 4000000
namespace Ov
open PySem L2 PySem.Spec PyProof.Rows
/-! a built-in class called with keywords; enumerate(v, start=k) -/
theorem ty_kw {M : Model} {A : Around} {E : Value → Shared → Prop} {s : Shared} {pos : Pos} {T : String} {args : List (Bool × Sem Value)} {kws : List (Option Str × Sem Value)} {Q : Value → Shared → Prop}
    (h1 : args.any (·.1) = false) (h2 : kws.any (·.1.isNone) = false) (h : wpAny M A (evalArgs (.type T) true args kws) (fun a s' => wpAny M A (call (.type T) a.pos a.kw) Q E s') E s) :
    wpAny M A (callWith pos (.type T) [] args kws) Q E s := by
  unfold callWith
  refine wpAny_bind (wpAny_holding (thn h fun a s' q => wpAny_bind (wpAny_standAt ?_)))
  rw [h1, h2]
  refine wpAny_bind (wpAny_pure (wpAny_bind (thn q fun r s2 z => ?_)))
  exact wpAny_bind (wpAny_holding (wpAny_point (wpAny_pure z)))
section
variable {X : Cx} {elts : List Expr} {kk : Nat} {tpos : Pos}
def iEnS (K : PySem.W.Frag) (ta tk : TA) : TI := fun σ H R => ta σ H fun vs H1 => tk σ H1 fun zs H2 => ∃ (a : Addr) (k : Int), vs = [.ref a] ∧ zs = [.int k] ∧ -(2 ^ 63) ≤ k ∧ k < 2 ^ 63 ∧ rEnW K k R a H2
theorem pi_enS {e : Expr} {ta tk : TA} {p pos : Pos} {kws : List Keyword} (hg : Gl X "enumerate") (hm : X.mg "enumerate" = none) (ha : PA X [e] ta) (hk : PK X kws tk)
    (he : backTo pos (starEach [e] X.env) = (false, eval e X.env) :: backTo pos (starEach [] X.env) := by rfl)
    (hall : (backToKw pos (keywordEach kws X.env)).all (·.1.isSome) = true := by rfl) (hnone : (backToKw pos (keywordEach kws X.env)).any (·.1.isNone) = false := by rfl)
    (hks : (backToKw pos (keywordEach kws X.env)).filterMap (·.1) = [Str.ofString "start"] := by rfl) :
    PI X (.Tuple elts kk tpos) (.Call (.Name "enumerate" p) [e] kws pos) (iEnS X.K ta tk) := by
  refine ⟨fun pins s σ H R I h => wpAny_Call_Name_kw (ld_blt I hg hm boot_enumerate ?_)⟩
  refine ty_kw (by rw [he]; rfl) hnone ?_
  have run : wpAny (model X.prog X.w) X.A (spliced (backTo pos (starEach [e] X.env))) (fun us s1 => wpAny (model X.prog X.w) X.A (evalAll ((backToKw pos (keywordEach kws X.env)).map (·.2)))
      (fun ws s2 => ∃ vs : List V, Vals vs us ∧ AP X pins σ (fun zs H2 => ∃ (a : Addr) (k : Int), vs = [.ref a] ∧ zs = [.int k] ∧ -(2 ^ 63) ≤ k ∧ k < 2 ^ 63 ∧ rEnW X.K k R a H2) ws s2) X.xe s1) X.xe s :=
    thn (ha.run pos pins s σ H _ I h) fun us s1 ⟨vs, H1, I1, r1, q1⟩ => thn (hk.run pos pins s1 σ H1 _ I1 q1) fun ws s2 z => ⟨vs, r1, z⟩
  rw [he] at run ⊢
  refine evalArgs_kwB hall (thn run fun us s1 z => thn z ?_)
  rintro ws s2 ⟨vs, r1, zs, H2, J, r2, a, k, rfl, rfl, k0, k1, xs, q⟩
  rw [hks]
  obtain rfl := Vals.ref1 r1
  obtain ⟨u, rfl, t, rfl⟩ := vals1 r2
  rcases q with ⟨hq, q⟩ | ⟨hq, q⟩
  · obtain ⟨its, _, pl, _⟩ := J.list hq
    exact enum_begins_start (begins_list a its.toArray) pl.isList k0 k1 fun h' he ho _ kp => wpAny_pyIter_enum he (pieL J hq he ho kp q)
  · obtain ⟨its, _, pt, _⟩ := J.tuple hq
    exact enum_begins_start (begins_tuple a its.toArray) pt k0 k1 fun h' he ho _ kp => wpAny_pyIter_enum he (pieT J hq he ho kp q)
end
end Ov

set_option Elab.async false
set_option linter.all false
set_option maxRecDepth 100000
set_option maxHeartbeats 4000000
namespace Ov
open PySem L2
/-! data: their types, numbers, rows -/
def tyD : PyData → String
  | .none => "NoneType"
  | .bool _ => "bool"
  | .int _ => "int"
  | .str _ => "str"
  | .list _ => "list"
  | .tuple _ => "tuple"
  | .dict _ => "dict"
theorem dp_ty {K : PySem.W.Frag} {H : Hp} {v : V} {d : PyData} (h : Dp K H v d) : TyX K H v (.type (tyD d)) := by
  cases h with
  | non => exact .base .non
  | bl b => exact .base (.bl b)
  | int i => exact .base (.int i)
  | str x => exact .base (.str x)
  | lst h _ => exact tyL h
  | tup h _ => exact tyT h
def isI : PyData → Bool
  | .int _ => true
  | _ => false
def isB : PyData → Bool
  | .bool _ => true
  | _ => false
def isT : PyData → Bool
  | .tuple _ => true
  | _ => false
def isL : PyData → Bool
  | .list _ => true
  | _ => false
theorem kit_int : ∀ d : PyData, kitB (tyD d) "int" = some (isI d || isB d)
  | .none => (by decide +kernel : kitB "NoneType" "int" = some false)
  | .bool _ => (by decide +kernel : kitB "bool" "int" = some true)
  | .int _ => (by decide +kernel : kitB "int" "int" = some true)
  | .str _ => (by decide +kernel : kitB "str" "int" = some false)
  | .list _ => (by decide +kernel : kitB "list" "int" = some false)
  | .tuple _ => (by decide +kernel : kitB "tuple" "int" = some false)
  | .dict _ => (by decide +kernel : kitB "dict" "int" = some false)
theorem kit_bool : ∀ d : PyData, kitB (tyD d) "bool" = some (isB d)
  | .none => (by decide +kernel : kitB "NoneType" "bool" = some false)
  | .bool _ => (by decide +kernel : kitB "bool" "bool" = some true)
  | .int _ => (by decide +kernel : kitB "int" "bool" = some false)
  | .str _ => (by decide +kernel : kitB "str" "bool" = some false)
  | .list _ => (by decide +kernel : kitB "list" "bool" = some false)
  | .tuple _ => (by decide +kernel : kitB "tuple" "bool" = some false)
  | .dict _ => (by decide +kernel : kitB "dict" "bool" = some false)
theorem kit_tuple : ∀ d : PyData, kitB (tyD d) "tuple" = some (isT d)
  | .none => (by decide +kernel : kitB "NoneType" "tuple" = some false)
  | .bool _ => (by decide +kernel : kitB "bool" "tuple" = some false)
  | .int _ => (by decide +kernel : kitB "int" "tuple" = some false)
  | .str _ => (by decide +kernel : kitB "str" "tuple" = some false)
  | .list _ => (by decide +kernel : kitB "list" "tuple" = some false)
  | .tuple _ => (by decide +kernel : kitB "tuple" "tuple" = some true)
  | .dict _ => (by decide +kernel : kitB "dict" "tuple" = some false)
theorem kit_list : ∀ d : PyData, kitB (tyD d) "list" = some (isL d)
  | .none => (by decide +kernel : kitB "NoneType" "list" = some false)
  | .bool _ => (by decide +kernel : kitB "bool" "list" = some false)
  | .int _ => (by decide +kernel : kitB "int" "list" = some false)
  | .str _ => (by decide +kernel : kitB "str" "list" = some false)
  | .list _ => (by decide +kernel : kitB "list" "list" = some true)
  | .tuple _ => (by decide +kernel : kitB "tuple" "list" = some false)
  | .dict _ => (by decide +kernel : kitB "dict" "list" = some false)
/-- a height: a number from 1 -/
def isH : PyData → Bool
  | .int i => decide (1 ≤ i)
  | _ => false
def intsOf : List PyData → List Int
  | [] => []
  | .int i :: r => i :: intsOf r
  | _ :: r => intsOf r
def isCrowd : PyData → Bool
  | .tuple ds => ds.all isH && decide (intsOf ds).Nodup
  | _ => false
theorem ints_all : ∀ {ds : List PyData}, ds.all isH = true → ds = (intsOf ds).map PyData.int
  | [], _ => rfl
  | d :: r, h => by
    rw [List.all_cons, Bool.and_eq_true] at h
    cases d with
    | int i => rw [intsOf, List.map_cons, ← ints_all h.2]
    | none => exact absurd h.1 (by decide)
    | bool _ => exact absurd h.1 Bool.false_ne_true
    | str _ => exact absurd h.1 Bool.false_ne_true
    | list _ => exact absurd h.1 Bool.false_ne_true
    | tuple _ => exact absurd h.1 Bool.false_ne_true
    | dict _ => exact absurd h.1 Bool.false_ne_true
theorem dpAll_len {K : PySem.W.Frag} {H : Hp} : ∀ {xs : List V} {ds : List PyData}, DpAll K H xs ds → xs.length = ds.length
  | _, _, .nil => rfl
  | _, _, .cons _ t => congrArg (· + 1) (dpAll_len t)
theorem dpAll_get {K : PySem.W.Frag} {H : Hp} : ∀ {xs : List V} {ds : List PyData}, DpAll K H xs ds → ∀ {i : Nat} {x : V}, xs[i]? = some x → ∃ d, ds[i]? = some d ∧ Dp K H x d
  | _, _, .nil, i, x, h => by simp at h
  | _, _, .cons h t, 0, x, e => by cases e; exact ⟨_, rfl, h⟩
  | _, _, .cons h t, i + 1, x, e => dpAll_get t (i := i) e
theorem dpAll_intsV {K : PySem.W.Frag} {H : Hp} : ∀ {xs : List V} {ns : List Int}, DpAll K H xs (ns.map PyData.int) → xs = ns.map V.int
  | _, [], .nil => rfl
  | _, n :: r, .cons h t => by cases h; rw [dpAll_intsV t]; rfl
mutual
theorem Dp.same {K : PySem.W.Frag} {H H' : Hp} (s : Same H H') : ∀ {v : V} (d : PyData), Dp K H v d → Dp K H' v d
  | _, .none, h => by cases h; exact .non
  | _, .bool b, h => by cases h; exact .bl b
  | _, .int i, h => by cases h; exact .int i
  | _, .str x, h => by cases h; exact .str x
  | _, .list ds, h => by cases h with | lst q t => exact .lst (s.seq q) (DpAll.same s ds t)
  | _, .tuple ds, h => by cases h with | tup q t => exact .tup (seqT s q) (DpAll.same s ds t)
  | _, .dict _, h => by cases h
theorem DpAll.same {K : PySem.W.Frag} {H H' : Hp} (s : Same H H') : ∀ {xs : List V} (ds : List PyData), DpAll K H xs ds → DpAll K H' xs ds
  | _, [], h => by cases h; exact .nil
  | _, d :: ds, h => by cases h with | cons q t => exact .cons (Dp.same s d q) (DpAll.same s ds t)
end
/-- numbers all different, or not, by their count -/
theorem dup_at : ∀ {ns : List Int}, ¬ ns.Nodup → ∃ a x b, ns = a ++ x :: b ∧ x ∈ b
  | [], h => absurd List.nodup_nil h
  | x :: r, h => by
    by_cases q : x ∈ r
    · exact ⟨[], x, r, rfl, q⟩
    · obtain ⟨a, y, b, e, m⟩ := dup_at (ns := r) fun z => h (List.nodup_cons.mpr ⟨q, z⟩)
      exact ⟨x :: a, y, b, by rw [e]; rfl, m⟩
theorem dedup_len {out ns : List Int} (nd : out.Nodup) (h : ∀ k, k ∈ out ↔ k ∈ ns) : decide ((out.length : Int) = (ns.length : Int)) = decide ns.Nodup := by
  by_cases q : ns.Nodup
  · have e : out.length = ns.length := Nat.le_antisymm (sub_len _ _ nd fun x hx => (h x).mp hx) (sub_len _ _ q fun x hx => (h x).mpr hx)
    rw [decide_eq_true q, decide_eq_true (by omega)]
  · rw [decide_eq_false q]
    obtain ⟨a, x, b, e, m⟩ := dup_at q
    have le := sub_len out (a ++ b) nd fun y hy => by
      have z := (h y).mp hy
      rw [e] at z
      rcases List.mem_append.mp z with z | z
      · exact List.mem_append_left _ z
      · rcases List.mem_cons.mp z with z | z
        · rw [z]; exact List.mem_append_right _ m
        · exact List.mem_append_right _ z
    refine decide_eq_false fun z => ?_
    rw [e] at z
    rw [List.length_append] at le z
    rw [List.length_cons] at z
    omega
end Ov

set_option Elab.async false
set_option linter.all false
set_option maxRecDepth 100000
set_option maxHeartbeats 4000000
namespace Ov
open PySem L2 PySem.Spec PyProof.Rows
/-! sorted(v), v a list or a tuple of numbers -/
section
variable {prog : Program} {w : World} {A : Around} {E : Value → Shared → Prop} {s : Shared}
theorem collect_tup {l : Addr} {vs : List Value} {Q : List Value → Shared → Prop} (hl : s.heap.IsTuple l vs.toArray)
    (h : Q vs { s with heap := (s.heap.push (seqObj "list" #[] 0)).update s.heap.objs.size (Obj.mapSeq (· ++ vs.toArray)) }) (hz : vs.length ≤ sizeLine) : wpAny (model prog w) A (collect (.ref l)) Q E s := by
  obtain ⟨o, ho, hc, n, hd⟩ := hl
  have new : (s.heap.push (seqObj "list" #[] 0)).get? s.heap.objs.size = some (seqObj "list" #[] 0) := Heap.get?_push_size _ rfl
  unfold collect
  refine wpAny_bind (wpAny_runValue (codeAny_builtin entry_proto_collect' ?_))
  show wpAny _ _ (do again (.builtin "list.__iadd__" ⟨[← newList [], .ref l], []⟩)) _ _ s
  refine wpAny_bind (wpAny_newList (wpAny_pure ⟨Code.quiet_builtin _ (by decide +kernel), codeAny_builtin entry_list_iadd' ?_⟩))
  have up := Heap.get?_push_of_some (seqObj "list" #[] 0) ho
  have fit : ((#[] : Array Value) ++ vs.toArray).size ≤ sizeLine + 1 := by
    rw [Array.size_append, List.size_toArray]
    show 0 + vs.length ≤ sizeLine + 1
    omega
  have yes : (Value.type "tuple" == Value.type "tuple") = true := rfl
  show wpAny _ _ (Builtin.List.listExtendWith (.ref s.heap.objs.size) (.ref l) (.ref s.heap.objs.size)) _ _ { s with heap := s.heap.push (seqObj "list" #[] 0) }
  unfold Builtin.List.listExtendWith
  refine wpAny_bind (wpAny_typeOf (T := "tuple") ⟨o, up, hc⟩ ?_)
  rw [if_pos (by rw [yes, Bool.or_true])]
  refine wpAny_bind (listItems_at up hd (wpAny_bind (listItems_at (xs := #[]) (n := 0) new rfl ?_)))
  rw [if_neg (by simp)]
  refine wpAny_bind (listUpdate_at (xs := #[]) (n := 0) new rfl (wpAny_pure ?_) (Nat.zero_le _) fit)
  show wpAny (model prog w) A (load s.heap.objs.size >>= _) Q E _
  refine wpAny_bind (wpAny_load (get?_update_seq new _) ?_)
  show wpAny _ _ (pure ((#[] : Array Value) ++ vs.toArray).toList) Q E _
  rw [show ((#[] : Array Value) ++ vs.toArray).toList = vs by simp]
  exact wpAny_pure h
theorem sorted_tup {l : Addr} {vs : List Value} {ns : List Int} {Q : Value → Shared → Prop} (hl : s.heap.IsTuple l vs.toArray) (hi : IntsAre vs ns) (hz : vs.length ≤ sizeLine)
    (h : ∀ out : List Value, SrtO.Srtd SrtO.ltIv out → SrtO.Stb SrtO.ltIv out vs → Q (.ref (s.heap.objs.size + 1)) { s with heap := sortedAll s.heap vs out.toArray }) :
    wpAny (model prog w) A (call (.builtin "sorted") [.ref l]) Q E s := by
  refine Calls.call_function_entry kind_sorted plain_sorted entry_sorted (args_sorted1 _) ?_
  unfold Builtin.«sorted»
  refine wpAny_bind (m := checkCount "sorted" 1 1 _) (wpAny_pure (wpAny_bind (collect_tup hl (wpAny_bind (wpAny_newList ?_ hz)) hz)))
  have sz : ((s.heap.push (seqObj "list" #[] 0)).update s.heap.objs.size (Obj.mapSeq (· ++ vs.toArray))).objs.size = s.heap.objs.size + 1 := by rw [Heap.size_update, size_push']
  have new : (((s.heap.push (seqObj "list" #[] 0)).update s.heap.objs.size (Obj.mapSeq (· ++ vs.toArray))).push (seqObj "list" vs.toArray 0)).get? (s.heap.objs.size + 1) = some (seqObj "list" vs.toArray 0) := by
    rw [← sz]
    exact Heap.get?_push_size _ rfl
  show wpAny _ _ _ _ _ { s with heap := ((s.heap.push (seqObj "list" #[] 0)).update s.heap.objs.size (Obj.mapSeq (· ++ vs.toArray))).push (seqObj "list" vs.toArray 0) }
  rw [sz]
  refine wpAny_bind (wpAny_holding (wpAny_call_entry slot_list_sort ⟨_, new, rfl⟩ entry_list_sort ?_ (args_list_sort _)))
  exact SrtO.list_sort_ord SrtO.swo_int new hz (fun h2 => SrtO.ints_sortable hi h2) fun out hs hb => ⟨_, rfl, wpAny_pure ⟨_, rfl, h out hs hb⟩⟩
end
section
variable {X : Cx}
def rSrtW (K : PySem.W.Frag) : List V → Hp → VK → Prop := fun vs H Q => ∃ (a : Addr) (ns : List Int), vs = [V.ref a] ∧ Sq K H a (ns.map V.int) ∧ ∀ (ns' : List Int) (p : Addr) (H' : Hp), ns'.Perm ns → ns'.Pairwise (· ≤ ·) → H p = none → Same H H' → H' p = some (.lst (ns'.map V.int)) → Q (.ref p) H'
theorem cr_sortedW : CallR X (.builtin "sorted") (rSrtW X.K) := by
  intro pins s σ H vs us Q I r h
  obtain ⟨a, ns, rfl, hs | hs, q⟩ := h
  · exact cr_sortedI pins s σ H _ us Q I r ⟨a, ns, rfl, hs, fun ns' p k1 k2 hp => q ns' p _ k1 k2 hp (same_new hp _) upd_same⟩
  · obtain ⟨its, rv, hl, hz⟩ := I.tuple hs
    rw [Vals.ref1 r]
    have hi := rv.ints
    refine sorted_tup hl hi (by rw [← rv.length]; exact hz) ?_
    intro out h1 h2
    obtain ⟨k1, k2, k3⟩ := SrtO.ints_out hi h1 h2
    obtain ⟨ep, he⟩ := sortedAll_at s.heap its out.toArray
    have fr : H (s.heap.objs.size + 1) = none := I.hok.fresh (Nat.le_succ _)
    have len : ((out.map SrtO.iv).map V.int).length ≤ sizeLine := by
      rw [List.length_map, k2.length_eq]
      rw [List.length_map] at hz
      exact hz
    exact ⟨.ref _, _, I.laid (t' := s.toks) (o := .lst ((out.map SrtO.iv).map V.int)) (fun _ _ => sortedAll_old) (Nat.le_succ _) ⟨len, out, ep, vals_of_ints k1, he⟩, rfl, q _ _ _ k2 k3 fr (same_new fr _) upd_same⟩
end
end Ov

set_option Elab.async false
set_option linter.all false
set_option maxRecDepth 100000
set_option maxHeartbeats 4000000
namespace Ov
open PySem L2
/-! a dict comprehension over any walk -/
theorem dc_it {J : It} {n : Nat} {G : Hp → Prop} {Y : Nat → Hp → V → Hp → Prop} (w : Walk J n G Y) {g : TG} {tt : TT} {tk tv : TE} {vs : List Nat} {σ : L2.St} {H1 : Hp} {D : Addr} {Qd : Hp → Prop} (Pv : Nat → Hp → Prop) (h0 : Pv 0 (upd H1 D (.dK [])))
    (hG : ∀ i H, i ≤ n → Pv i H → G H)
    (hs : ∀ i x H H', i < n → Pv i H → Y i H x H' → g x (wipe σ vs) H' fun σ2 H2 => wipe σ2 vs = wipe σ vs ∧ tt σ2 H2 fun b H3 =>
      if b = true then tk σ2 H3 fun y H4 => tv σ2 H4 fun z H5 => ∃ kvs k, y = kV k ∧ H5 D = some (.dK kvs) ∧ kvs.length < sizeLine ∧ Pv (i + 1) (upd H5 D (.dK (putK kvs k z))) else Pv (i + 1) H3) (hd : ∀ H, Pv n H → Qd H) :
    ∃ W : Nat → Nat → Hp → Prop, (∃ m, W 0 m (upd H1 D (.dK []))) ∧ ∀ i m H, W i m H →
      (J.stop i H ∧ Qd H) ∨ (J.go i H ∧ ∃ Nx : Hp → Prop, (∀ H', Nx H' → ∃ m', m' < m ∧ W (i + 1) m' H') ∧ ∀ x H', J.yld i H x H' → g x (wipe σ vs) H' fun σ2 H2 => wipe σ2 vs = wipe σ vs ∧ tt σ2 H2 fun b H3 =>
        if b = true then tk σ2 H3 fun y H4 => tv σ2 H4 fun z H5 => ∃ kvs k, y = kV k ∧ H5 D = some (.dK kvs) ∧ kvs.length < sizeLine ∧ Nx (upd H5 D (.dK (putK kvs k z))) else Nx H3) := by
  refine ⟨fun i m H => m = n - i ∧ i ≤ n ∧ Pv i H, ⟨_, rfl, Nat.zero_le _, h0⟩, ?_⟩
  rintro i _ H ⟨rfl, le, p⟩
  have gH := hG i H le p
  rcases Nat.lt_or_ge i n with lt | ge
  · exact .inr ⟨w.goes i H lt gH, Pv (i + 1), fun H' p' => ⟨n - (i + 1), by omega, rfl, lt, p'⟩, fun x H' y => hs i x H H' lt p (w.yields i H x H' lt gH y)⟩
  · obtain rfl : i = n := Nat.le_antisymm le ge
    exact .inl ⟨w.stops H gH, hd H p⟩
/-! each number with its place, from 1 -/
def kvE (l : List Int) : List (Key × V) := l.zipIdx.map fun p => (Sum.inl p.1, V.int (1 + (p.2 : Int)))
theorem kvE_keys (l : List Int) : (kvE l).map (·.1) = l.map Sum.inl := by
  unfold kvE
  rw [List.map_map]
  have e : ((fun x : Key × V => x.1) ∘ fun p : Int × Nat => ((Sum.inl p.1 : Key), V.int (1 + (p.2 : Int)))) = (fun x => (Sum.inl x : Key)) ∘ Prod.fst := rfl
  rw [e, ← List.map_map, List.zipIdx_map_fst]
theorem kvE_len (l : List Int) : (kvE l).length = l.length := by
  unfold kvE
  rw [List.length_map, List.length_zipIdx]
theorem val_none {k : Key} : ∀ {kvs : List (Key × V)}, k ∉ kvs.map (·.1) → valV kvs k = none
  | [], _ => rfl
  | (a, v) :: r, h => by
    rw [List.map_cons, List.mem_cons, not_or] at h
    have ih := val_none (kvs := r) h.2
    unfold valV at ih ⊢
    rw [List.find?_cons, decide_eq_false (fun z => h.1 z.symm)]
    exact ih
theorem val_some {k : Key} {v : V} : ∀ {kvs : List (Key × V)}, (kvs.map (·.1)).Nodup → (k, v) ∈ kvs → valV kvs k = some v
  | [], _, h => nomatch h
  | (a, u) :: r, nd, h => by
    rw [List.map_cons, List.nodup_cons] at nd
    unfold valV
    rw [List.find?_cons]
    rcases List.mem_cons.mp h with e | h
    · cases e
      rw [decide_eq_true rfl]
      rfl
    · have ne : a ≠ k := fun z => nd.1 (by rw [z]; exact List.mem_map.mpr ⟨(k, v), h, rfl⟩)
      rw [decide_eq_false ne]
      exact val_some nd.2 h
theorem kvE_put {l : List Int} {x : Int} (h : x ∉ l) : putK (kvE l) (Sum.inl x) (.int (1 + (l.length : Int))) = kvE (l ++ [x]) := by
  have e : valV (kvE l) (Sum.inl x) = none := val_none (by
    rw [kvE_keys]
    intro z
    obtain ⟨y, hy, e⟩ := List.mem_map.mp z
    exact h (Sum.inl.inj e ▸ hy))
  rw [putK_new _ e]
  unfold kvE
  rw [List.zipIdx_append, List.map_append]
  simp
theorem kvE_val {l : List Int} {x : Int} {i : Nat} (nd : l.Nodup) (h : l[i]? = some x) : valV (kvE l) (Sum.inl x) = some (.int (1 + (i : Int))) := by
  refine val_some ?_ ?_
  · rw [kvE_keys]
    exact List.Pairwise.map _ (fun a b ne e => ne (Sum.inl.inj e)) nd
  · unfold kvE
    exact List.mem_map.mpr ⟨(x, i), by rw [List.mem_zipIdx_iff_getElem?]; exact h, rfl⟩
/-- how many are at most x -/
def rankIn (ns : List Int) (x : Int) : Int := ((ns.filter (· ≤ x)).length : Int)
theorem rank_perm {ns ms : List Int} (p : ms.Perm ns) (x : Int) : rankIn ms x = rankIn ns x := by
  unfold rankIn
  rw [(p.filter _).length_eq]
theorem rank_at : ∀ {ms : List Int} {i : Nat} {x : Int}, ms.Pairwise (· < ·) → ms[i]? = some x → rankIn ms x = 1 + (i : Int)
  | [], _, _, _, h => by simp at h
  | y :: r, 0, x, hp, h => by
    cases h
    rw [List.pairwise_cons] at hp
    unfold rankIn
    have e : r.filter (· ≤ y) = [] := List.filter_eq_nil_iff.mpr fun z hz => by
      have := hp.1 z hz
      simp
      omega
    rw [List.filter_cons_of_pos (by simp), e]
    rfl
  | y :: r, i + 1, x, hp, h => by
    have hr : r[i]? = some x := h
    rw [List.pairwise_cons] at hp
    have ih := rank_at hp.2 hr
    have lt := hp.1 x (List.mem_of_getElem? hr)
    unfold rankIn at ih ⊢
    rw [List.filter_cons_of_pos (by simp; omega), List.length_cons]
    omega
end Ov

set_option Elab.async false
set_option linter.all false
set_option maxRecDepth 100000
set_option maxHeartbeats 4000000
namespace Ov
open PySem L2
/-! a heap without the box, and without what else is set aside -/
open Classical in
noncomputable def off (S : Addr → Prop) (H : Hp) : Hp := fun b => if S b then none else H b
theorem off_ne {S : Addr → Prop} {b : Addr} {H : Hp} (h : ¬ S b) : off S H b = H b := if_neg h
theorem off_at {S : Addr → Prop} {H : Hp} {b : Addr} {o : HO} (h : off S H b = some o) : ¬ S b ∧ H b = some o := by
  unfold off at h
  split at h
  · cases h
  · exact ⟨by assumption, h⟩
theorem off_sub (S : Addr → Prop) (H : Hp) : Same (off S H) H := fun b o h => (off_at h).2
theorem off_same {S : Addr → Prop} {p : Addr} {H H' : Hp} (hp : S p) (s : SameB p H H') : Same (off S H) (off S H') := fun b o h => by
  obtain ⟨n, e⟩ := off_at h
  rw [off_ne n]
  exact s b o (fun z => n (z ▸ hp)) e
/-- with one more set aside, which may then be changed -/
theorem off_more {S : Addr → Prop} {H : Hp} {l : Addr} (o : HO) : Same (off (fun b => S b ∨ b = l) H) (off S (upd H l o)) := fun b u h => by
  obtain ⟨n, e⟩ := off_at h
  rw [off_ne fun z => n (.inl z), upd_ne fun z => n (.inr z)]
  exact e
theorem off_less {S : Addr → Prop} {H G : Hp} {l : Addr} (s : Same (off S H) (off S G)) (nl : H l = none) : Same (off S H) (off (fun b => S b ∨ b = l) G) := fun b u h => by
  obtain ⟨n, e⟩ := off_at h
  obtain ⟨_, e2⟩ := off_at (s b u h)
  rw [off_ne fun z => z.elim n fun z => by rw [z, nl] at e; cases e]
  exact e2
theorem off_lst {K : PySem.W.Frag} {S : Addr → Prop} {a : Addr} {H : Hp} {xs : List V} (ne : ¬ S a) (h : H a = some (.lst xs)) : SqL K (off S H) a xs := SqL.of ((off_ne ne).trans h)
theorem off_tup {K : PySem.W.Frag} {S : Addr → Prop} {a : Addr} {H : Hp} {xs : List V} (ne : ¬ S a) (h : H a = some (.tup xs)) : SqT K (off S H) a xs := SqT.of ((off_ne ne).trans h)
/-- what is set aside are lists -/
theorem off_T {K : PySem.W.Frag} {S : Addr → Prop} {a : Addr} {H : Hp} {xs : List V} (hS : ∀ b, S b → ∃ ys, H b = some (.lst ys)) (h : SqT K H a xs) : SqT K (off S H) a xs := by
  rcases h with (h | ⟨o, h⟩) | h
  · refine .inl (.inl ((off_ne fun z => ?_).trans h))
    obtain ⟨ys, e⟩ := hS a z
    rw [e] at h
    cases h
  · refine .inl (.inr ⟨o, (off_ne fun z => ?_).trans h⟩)
    obtain ⟨ys, e⟩ := hS a z
    rw [e] at h
    cases h
  · exact .inr h
/-! data of a bounded form -/
def leaf (m : Nat) : PyData → Prop
  | .none => True
  | .bool _ => True
  | .int i => -(10 ^ 30 + (m : Int)) ≤ i ∧ i ≤ 10 ^ 30 + (m : Int)
  | .str x => (reprText x).length ≤ 1100
  | _ => False
def Bd (m : Nat) : Nat → PyData → Prop
  | 0, d => leaf m d
  | n + 1, d => leaf m d ∨ ∃ ds : List PyData, (d = .list ds ∨ d = .tuple ds) ∧ ds.length ≤ 16 + m ∧ ∀ e ∈ ds, Bd m n e
theorem leaf.mono {m k : Nat} (h : m ≤ k) : ∀ {d : PyData}, leaf m d → leaf k d
  | .none, _ => trivial
  | .bool _, _ => trivial
  | .int i, z => by
    obtain ⟨a, b⟩ := z
    exact ⟨by omega, by omega⟩
  | .str _, z => z
theorem Bd.mono {m k : Nat} (h : m ≤ k) : ∀ {n j : Nat} {d : PyData}, n ≤ j → Bd m n d → Bd k j d
  | 0, 0, _, _, z => leaf.mono h z
  | 0, j + 1, _, _, z => .inl (leaf.mono h z)
  | n + 1, j + 1, d, le, z => by
    rcases z with z | ⟨ds, e, l, a⟩
    · exact .inl (leaf.mono h z)
    · exact .inr ⟨ds, e, by omega, fun x hx => Bd.mono h (by omega) (a x hx)⟩
def Ln : Nat → Nat
  | 0 => 2000
  | n + 1 => 18 * (Ln n + 2) + 3
def Fits (n : Nat) (d : PyData) : Prop := d.hasDict = false ∧ d.depth ≤ n + 1 ∧ d.showable = true ∧ d.shown.length ≤ Ln n
theorem log_small {i : Int} (h : -(10 ^ 30 + 2) ≤ i ∧ i ≤ 10 ^ 30 + 2) : i.natAbs.log2 < 1920 := by
  by_cases z : i.natAbs = 0
  · rw [z]
    decide
  · have lt : i.natAbs < 2 ^ 100 := by omega
    exact Nat.lt_trans ((Nat.log2_lt z).mpr lt) (by decide)
theorem leaf_fits {m : Nat} (hm : m ≤ 2) : ∀ {d : PyData}, leaf m d → Fits 0 d
  | .none, _ => ⟨rfl, by decide, rfl, by decide⟩
  | .bool b, _ => ⟨rfl, by show _ ≤ 1; simp [PyData.depth], rfl, by cases b <;> decide⟩
  | .int i, z => by
    have l := log_small (i := i) (by obtain ⟨a, b⟩ := z; exact ⟨by omega, by omega⟩)
    refine ⟨rfl, by simp [PyData.depth], decide_eq_true l, ?_⟩
    have := PyProof.Rows.int_text_len_1921 l
    show (Str.ofString (toString i)).length ≤ 2000
    omega
  | .str x, z => ⟨rfl, by simp [PyData.depth], rfl, by
    have : (reprText x).length ≤ 1100 := z
    show (reprText x).length ≤ 2000
    omega⟩
theorem all_fits {n : Nat} : ∀ {ds : List PyData}, (∀ e ∈ ds, Fits n e) → PyData.hasDictAll ds = false ∧ PyData.depthAll ds ≤ n + 1 ∧ PyData.showableAll ds = true ∧ ((PyData.shownAll ds).map (·.length)).sum ≤ ds.length * Ln n ∧ (PyData.shownAll ds).length = ds.length
  | [], _ => ⟨rfl, Nat.zero_le _, rfl, Nat.zero_le _, rfl⟩
  | d :: r, h => by
    obtain ⟨a1, a2, a3, a4⟩ := h d (List.mem_cons_self ..)
    obtain ⟨b1, b2, b3, b4, b5⟩ := all_fits (ds := r) fun e he => h e (List.mem_cons_of_mem _ he)
    refine ⟨?_, ?_, ?_, ?_, ?_⟩
    · show (PyData.hasDict d || PyData.hasDictAll r) = false
      rw [a1, b1]
      rfl
    · show max d.depth (PyData.depthAll r) ≤ n + 1
      omega
    · show (PyData.showable d && PyData.showableAll r) = true
      rw [a3, b3]
      rfl
    · show d.shown.length + ((PyData.shownAll r).map (·.length)).sum ≤ (r.length + 1) * Ln n
      rw [Nat.succ_mul]
      omega
    · show (PyData.shownAll r).length + 1 = r.length + 1
      rw [b5]
theorem Bd.fits {m : Nat} (hm : m ≤ 2) : ∀ {n : Nat} {d : PyData}, Bd m n d → Fits n d
  | 0, d, h => leaf_fits hm h
  | n + 1, d, h => by
    rcases h with h | ⟨ds, e, l, a⟩
    · obtain ⟨a1, a2, a3, a4⟩ := leaf_fits hm h
      refine ⟨a1, by omega, a3, Nat.le_trans a4 ?_⟩
      clear a4
      show 2000 ≤ Ln (n + 1)
      have : ∀ k, 2000 ≤ Ln k := fun k => by
        induction k with
        | zero => exact Nat.le_refl _
        | succ k ih => show 2000 ≤ 18 * (Ln k + 2) + 3; omega
      exact this _
    · obtain ⟨b1, b2, b3, b4, b5⟩ := all_fits fun e he => Bd.fits hm (a e he)
      have w : ds.length * Ln n ≤ 18 * Ln n := Nat.mul_le_mul_right _ (by omega)
      have fin : ∀ x : Nat, x ≤ ((PyData.shownAll ds).map (·.length)).sum + 2 * (PyData.shownAll ds).length + 3 → x ≤ Ln (n + 1) := fun x hx => by
        show x ≤ 18 * (Ln n + 2) + 3
        omega
      rcases e with rfl | rfl
      · exact ⟨b1, by show PyData.depthAll ds + 1 ≤ _; omega, b3, fin _ (listText_len_le _)⟩
      · exact ⟨b1, by show PyData.depthAll ds + 1 ≤ _; omega, b3, fin _ (tupleText_len_le _)⟩
theorem Bd.size {n : Nat} (h : n ≤ 3) {d : PyData} (f : Fits n d) : d.shown.length ≤ sizeLine := by
  have : ∀ k, k ≤ 3 → Ln k ≤ 2 ^ 24 := fun k hk => by
    match k, hk with
    | 0, _ => decide
    | 1, _ => decide
    | 2, _ => decide
    | 3, _ => decide
  exact Nat.le_trans f.2.2.2 (this n h)
theorem int_log {i : Int} (h : -(10 ^ 30 + 10) ≤ i ∧ i ≤ 10 ^ 30 + 10) : i.natAbs.log2 < 100 := by
  by_cases z : i.natAbs = 0
  · rw [z]
    decide
  · exact (Nat.log2_lt z).mpr (by omega)
open PyProof.Rows in
theorem int_str {i : Int} (h : -(10 ^ 30 + 10) ≤ i ∧ i ≤ 10 ^ 30 + 10) : (reprText (Str.ofString (toString i))).length ≤ 1100 := by
  have l := PySem.int_text_length_le (k := 100) (by decide) (int_log h)
  have e := StrLaws.reprText_len (Str.ofString (toString i)) fun c hc => by
    by_cases z : 57 < c
    · exact absurd hc (int_text_free' c ⟨by omega, .inr z⟩ i)
    · omega
  rw [PySem.ofString_length] at e
  omega
end Ov

set_option Elab.async false
set_option linter.all false
set_option maxRecDepth 100000
set_option maxHeartbeats 4000000
namespace Ov
open PySem L2
/-! data that are sequences, or not; one item less, more, another -/
section
variable {K : PySem.W.Frag} {H : Hp}
theorem dp_seq {v : V} {d : PyData} (h : Dp K H v d) : (∃ a xs ds, v = .ref a ∧ ((d = .list ds ∧ SqL K H a xs) ∨ (d = .tuple ds ∧ SqT K H a xs)) ∧ DpAll K H xs ds) ∨ (isT d = false ∧ isL d = false) := by
  cases h with
  | non => exact .inr ⟨rfl, rfl⟩
  | bl _ => exact .inr ⟨rfl, rfl⟩
  | int _ => exact .inr ⟨rfl, rfl⟩
  | str _ => exact .inr ⟨rfl, rfl⟩
  | lst h t => exact .inl ⟨_, _, _, rfl, .inl ⟨rfl, h⟩, t⟩
  | tup h t => exact .inl ⟨_, _, _, rfl, .inr ⟨rfl, h⟩, t⟩
theorem dpAll_append : ∀ {xs ys : List V} {ds es : List PyData}, DpAll K H xs ds → DpAll K H ys es → DpAll K H (xs ++ ys) (ds ++ es)
  | _, _, _, _, .nil, t => t
  | _, _, _, _, .cons h r, t => .cons h (dpAll_append r t)
theorem dpAll_drop : ∀ {xs : List V} {ds : List PyData}, DpAll K H xs ds → ∀ i : Nat, DpAll K H (xs.drop i) (ds.drop i)
  | _, _, t, 0 => t
  | _, _, .nil, i + 1 => .nil
  | _, _, .cons _ r, i + 1 => dpAll_drop r i
theorem dpAll_taken : ∀ {xs : List V} {ds : List PyData}, DpAll K H xs ds → ∀ i : Nat, DpAll K H (xs.take i) (ds.take i)
  | _, _, _, 0 => by rw [List.take_zero, List.take_zero]; exact .nil
  | _, _, .nil, i + 1 => .nil
  | _, _, .cons h r, i + 1 => .cons h (dpAll_taken r i)
theorem dpAll_erase : ∀ {xs : List V} {ds : List PyData}, DpAll K H xs ds → ∀ i : Nat, DpAll K H (xs.eraseIdx i) (ds.eraseIdx i)
  | _, _, .nil, i => .nil
  | _, _, .cons _ r, 0 => r
  | _, _, .cons h r, i + 1 => .cons h (dpAll_erase r i)
theorem dpAll_set {v : V} {d : PyData} (z : Dp K H v d) : ∀ {xs : List V} {ds : List PyData}, DpAll K H xs ds → ∀ i : Nat, DpAll K H (xs.set i v) (ds.set i d)
  | _, _, .nil, i => .nil
  | _, _, .cons _ r, 0 => .cons z r
  | _, _, .cons h r, i + 1 => .cons h (dpAll_set z r i)
end
section
variable {m n : Nat} {ds : List PyData}
/-- a sequence of such data, wider by one at most -/
theorem Bd.seq (l : ds.length ≤ 16 + (m + 1)) (a : ∀ e ∈ ds, Bd (m + 1) n e) : Bd (m + 1) (n + 1) (.list ds) ∧ Bd (m + 1) (n + 1) (.tuple ds) := ⟨.inr ⟨ds, .inl rfl, l, a⟩, .inr ⟨ds, .inr rfl, l, a⟩⟩
theorem Bd.items {d : PyData} (h : Bd m (n + 1) d) (e : d = .list ds ∨ d = .tuple ds) : ds.length ≤ 16 + m ∧ ∀ x ∈ ds, Bd m n x := by
  rcases h with h | ⟨es, e2, l, a⟩
  · rcases e with rfl | rfl <;> exact h.elim
  · rcases e with rfl | rfl <;> rcases e2 with e2 | e2 <;> cases e2 <;> exact ⟨l, a⟩
theorem Bd.none0 {d : PyData} (h : Bd m 0 d) (e : d = .list ds ∨ d = .tuple ds) : False := by
  rcases e with rfl | rfl <;> exact h.elim
theorem mem_set {α : Type} {x y : α} : ∀ {l : List α} {i : Nat}, x ∈ l.set i y → x = y ∨ x ∈ l
  | [], _, h => .inr h
  | a :: r, 0, h => by
    rcases List.mem_cons.mp h with h | h
    · exact .inl h
    · exact .inr (List.mem_cons_of_mem _ h)
  | a :: r, i + 1, h => by
    rcases List.mem_cons.mp h with h | h
    · exact .inr (h ▸ List.mem_cons_self ..)
    · exact (mem_set h).imp id (List.mem_cons_of_mem _)
end
end Ov

set_option Elab.async false
set_option linter.all false
set_option maxRecDepth 100000
set_option maxHeartbeats 4000000
namespace Ov
open PySem L2
/-! Programs over plain data: what a slot holds is data, or a list that this slot alone owns.
 A reading of the hand layer is held against a plain function over the slots' data. -/
/-! data: as Dp, but no list of the written part -/
mutual
inductive Da (K : PySem.W.Frag) (H : Hp) : V → PyData → Prop
  | non : Da K H .non .none
  | bl (b : Bool) : Da K H (.bl b) (.bool b)
  | int (i : Int) : Da K H (.int i) (.int i)
  | str (x : Str) : Da K H (.str x) (.str x)
  | lst {a : Addr} {xs : List V} {ds : List PyData} : SqL K H a xs → DaAll K H xs ds → Da K H (.ref a) (.list ds)
  | tup {a : Addr} {xs : List V} {ds : List PyData} : SqT K H a xs → DaAll K H xs ds → Da K H (.ref a) (.tuple ds)
inductive DaAll (K : PySem.W.Frag) (H : Hp) : List V → List PyData → Prop
  | nil : DaAll K H [] []
  | cons {v : V} {vs : List V} {d : PyData} {ds : List PyData} : Da K H v d → DaAll K H vs ds → DaAll K H (v :: vs) (d :: ds)
end
section
variable {K : PySem.W.Frag} {H H' : Hp}
theorem rd_same {a : Addr} {xs : List V} (s : Same H H') (h : SqL K H a xs) : SqL K H' a xs := h.imp (fun h => h.imp (fun z => s _ _ z) fun ⟨u, z⟩ => ⟨u, s _ _ z⟩) id
theorem rd_sq {a : Addr} {xs : List V} (h : SqL K H a xs) : SqL K H a xs := h
mutual
theorem Da.same (s : Same H H') : ∀ {v : V} (d : PyData), Da K H v d → Da K H' v d
  | _, .none, h => by cases h; exact .non
  | _, .bool b, h => by cases h; exact .bl b
  | _, .int i, h => by cases h; exact .int i
  | _, .str x, h => by cases h; exact .str x
  | _, .list ds, h => by cases h with | lst q t => exact .lst (rd_same s q) (DaAll.same s ds t)
  | _, .tuple ds, h => by cases h with | tup q t => exact .tup (seqT s q) (DaAll.same s ds t)
  | _, .dict _, h => by cases h
theorem DaAll.same (s : Same H H') : ∀ {xs : List V} (ds : List PyData), DaAll K H xs ds → DaAll K H' xs ds
  | _, [], h => by cases h; exact .nil
  | _, d :: ds, h => by cases h with | cons q t => exact .cons (Da.same s d q) (DaAll.same s ds t)
end
mutual
theorem Da.dp : ∀ {v : V} (d : PyData), Da K H v d → Dp K H v d
  | _, .none, h => by cases h; exact .non
  | _, .bool b, h => by cases h; exact .bl b
  | _, .int i, h => by cases h; exact .int i
  | _, .str x, h => by cases h; exact .str x
  | _, .list ds, h => by cases h with | lst q t => exact .lst (rd_sq q) (DaAll.dp ds t)
  | _, .tuple ds, h => by cases h with | tup q t => exact .tup q (DaAll.dp ds t)
  | _, .dict _, h => by cases h
theorem DaAll.dp : ∀ {xs : List V} (ds : List PyData), DaAll K H xs ds → DpAll K H xs ds
  | _, [], h => by cases h; exact .nil
  | _, d :: ds, h => by cases h with | cons q t => exact .cons (Da.dp d q) (DaAll.dp ds t)
end
theorem daAll_len : ∀ {xs : List V} {ds : List PyData}, DaAll K H xs ds → xs.length = ds.length
  | _, _, .nil => rfl
  | _, _, .cons _ t => congrArg (· + 1) (daAll_len t)
theorem daAll_get : ∀ {xs : List V} {ds : List PyData}, DaAll K H xs ds → ∀ {i : Nat} {d : PyData}, ds[i]? = some d → ∃ x, xs[i]? = some x ∧ Da K H x d
  | _, _, .nil, i, d, h => by simp at h
  | _, _, .cons h t, 0, d, e => by cases e; exact ⟨_, rfl, h⟩
  | _, _, .cons h t, i + 1, d, e => daAll_get t (i := i) e
theorem daAll_append : ∀ {xs ys : List V} {ds es : List PyData}, DaAll K H xs ds → DaAll K H ys es → DaAll K H (xs ++ ys) (ds ++ es)
  | _, _, _, _, .nil, t => t
  | _, _, _, _, .cons h r, t => .cons h (daAll_append r t)
theorem daAll_drop : ∀ {xs : List V} {ds : List PyData}, DaAll K H xs ds → ∀ i : Nat, DaAll K H (xs.drop i) (ds.drop i)
  | _, _, t, 0 => t
  | _, _, .nil, i + 1 => .nil
  | _, _, .cons _ r, i + 1 => daAll_drop r i
theorem daAll_take : ∀ {xs : List V} {ds : List PyData}, DaAll K H xs ds → ∀ i : Nat, DaAll K H (xs.take i) (ds.take i)
  | _, _, _, 0 => by rw [List.take_zero, List.take_zero]; exact .nil
  | _, _, .nil, i + 1 => .nil
  | _, _, .cons h r, i + 1 => .cons h (daAll_take r i)
theorem daAll_erase : ∀ {xs : List V} {ds : List PyData}, DaAll K H xs ds → ∀ i : Nat, DaAll K H (xs.eraseIdx i) (ds.eraseIdx i)
  | _, _, .nil, i => .nil
  | _, _, .cons _ r, 0 => r
  | _, _, .cons h r, i + 1 => .cons h (daAll_erase r i)
theorem daAll_set {v : V} {d : PyData} (z : Da K H v d) : ∀ {xs : List V} {ds : List PyData}, DaAll K H xs ds → ∀ i : Nat, DaAll K H (xs.set i v) (ds.set i d)
  | _, _, .nil, i => .nil
  | _, _, .cons _ r, 0 => .cons z r
  | _, _, .cons h r, i + 1 => .cons h (daAll_set z r i)
theorem daAll_reverse : ∀ {xs : List V} {ds : List PyData}, DaAll K H xs ds → DaAll K H xs.reverse ds.reverse
  | _, _, .nil => .nil
  | _, _, .cons h r => by rw [List.reverse_cons, List.reverse_cons]; exact daAll_append (daAll_reverse r) (.cons h .nil)
end
/-- no tuple, and not locked -/
def NT : HO → Prop
  | .tup _ => False
  | .frz _ _ => False
  | _ => True
theorem off_T' {K : PySem.W.Frag} {S : Addr → Prop} {a : Addr} {H : Hp} {xs : List V} (hS : ∀ b, S b → ∃ o, H b = some o ∧ NT o) (h : SqT K H a xs) : SqT K (off S H) a xs := by
  rcases h with (h | ⟨o, h⟩) | h
  · refine .inl (.inl ((off_ne fun z => ?_).trans h))
    obtain ⟨ys, e, n⟩ := hS a z
    rw [h] at e
    cases e
    exact n
  · refine .inl (.inr ⟨o, (off_ne fun z => ?_).trans h⟩)
    obtain ⟨ys, e, n⟩ := hS a z
    rw [h] at e
    cases e
    exact n
  · exact .inr h
inductive It1 where
  | dat (d : PyData)
  | own (ds : List PyData)
inductive Wv where
  | dat (d : PyData)
  | own (xs : List It1)
  | exc (C : Addr) (f : Str) (d : PyData)
  /-- a dict of numbers, each True -/
  | dct (ks : List Int)
abbrev En := List (Option Wv)
def un (B : Addr → Prop) (l : List Addr) : Addr → Prop := fun b => B b ∨ b ∈ l
/-- all but what stands at l is kept -/
def Fr (l : List Addr) (H H' : Hp) : Prop := ∀ b o, b ∉ l → H b = some o → H' b = some o
def kvT (ks : List Int) : List (L2.Key × V) := ks.map fun k => (Sum.inl k, V.bl true)
section
variable {K : PySem.W.Frag}
def Rp1 (K : PySem.W.Frag) (H G : Hp) (v : V) (x : It1) (l : List Addr) : Prop :=
  match x with
  | .dat d => l = [] ∧ Da K G v d
  | .own ds => ∃ q us, v = .ref q ∧ l = [q] ∧ H q = some (.lst us) ∧ DaAll K G us ds
def Rp1s (K : PySem.W.Frag) (H G : Hp) : List V → List It1 → List Addr → Prop
  | [], [], l => l = []
  | v :: vs, x :: xs, l => ∃ a b, l = a ++ b ∧ Rp1 K H G v x a ∧ Rp1s K H G vs xs b
  | _, _, _ => False
def RpW (K : PySem.W.Frag) (H G : Hp) (v : V) (w : Wv) (l : List Addr) : Prop :=
  match w with
  | .dat d => l = [] ∧ Da K G v d
  | .own xs => ∃ p vs b, v = .ref p ∧ l = p :: b ∧ H p = some (.lst vs) ∧ Rp1s K H G vs xs b
  | .exc C f d => l = [] ∧ ∃ a u, v = .ref a ∧ Cau K G a C [(f, u)] ∧ Da K G u d
  | .dct ks => ∃ p, v = .ref p ∧ l = [p] ∧ H p = some (.dK (kvT ks))
def RpS (K : PySem.W.Frag) (H G : Hp) (s : Option V) (e : Option Wv) (l : List Addr) : Prop :=
  match e with
  | none => l = []
  | some w => ∃ v, s = some v ∧ RpW K H G v w l
def RpE (K : PySem.W.Frag) (H G : Hp) : St → En → List Addr → Prop
  | [], [], l => l = []
  | s :: σ, e :: env, l => ∃ a b, l = a ++ b ∧ RpS K H G s e a ∧ RpE K H G σ env b
  | _, _, _ => False
variable {H H' G G' : Hp}
theorem Rp1.mv (s : Same G G') {v : V} {x : It1} {l : List Addr} (k : ∀ q ∈ l, H' q = H q) (h : Rp1 K H G v x l) : Rp1 K H' G' v x l := by
  cases x with
  | dat d => exact ⟨h.1, Da.same s d h.2⟩
  | own ds =>
    obtain ⟨q, us, e1, e2, e3, e4⟩ := h
    exact ⟨q, us, e1, e2, (k q (by rw [e2]; exact List.mem_cons_self ..)).trans e3, DaAll.same s ds e4⟩
theorem Rp1s.mv (s : Same G G') : ∀ {vs : List V} {xs : List It1} {l : List Addr}, (∀ q ∈ l, H' q = H q) → Rp1s K H G vs xs l → Rp1s K H' G' vs xs l
  | [], [], l, _, h => h
  | v :: vs, x :: xs, l, k, ⟨a, b, e, h1, h2⟩ => ⟨a, b, e, h1.mv s fun q z => k q (by rw [e]; exact List.mem_append_left _ z), Rp1s.mv s (fun q z => k q (by rw [e]; exact List.mem_append_right _ z)) h2⟩
theorem RpW.mv (s : Same G G') {v : V} {w : Wv} {l : List Addr} (k : ∀ q ∈ l, H' q = H q) (h : RpW K H G v w l) : RpW K H' G' v w l := by
  cases w with
  | dat d => exact ⟨h.1, Da.same s d h.2⟩
  | own xs =>
    obtain ⟨p, vs, b, e1, e2, e3, e4⟩ := h
    exact ⟨p, vs, b, e1, e2, (k p (by rw [e2]; exact List.mem_cons_self ..)).trans e3, Rp1s.mv s (fun q z => k q (by rw [e2]; exact List.mem_cons_of_mem _ z)) e4⟩
  | exc C f d =>
    obtain ⟨e, a, u, e1, e2, e3⟩ := h
    exact ⟨e, a, u, e1, e2.same s, Da.same s d e3⟩
  | dct ks =>
    obtain ⟨p, e1, e2, e3⟩ := h
    exact ⟨p, e1, e2, (k p (by rw [e2]; exact List.mem_cons_self ..)).trans e3⟩
theorem RpS.mv (s : Same G G') {v : Option V} {e : Option Wv} {l : List Addr} (k : ∀ q ∈ l, H' q = H q) (h : RpS K H G v e l) : RpS K H' G' v e l := by
  cases e with
  | none => exact h
  | some w =>
    obtain ⟨x, e1, e2⟩ := h
    exact ⟨x, e1, e2.mv s k⟩
theorem RpE.mv (s : Same G G') : ∀ {σ : St} {env : En} {l : List Addr}, (∀ q ∈ l, H' q = H q) → RpE K H G σ env l → RpE K H' G' σ env l
  | [], [], l, _, h => h
  | v :: σ, e :: env, l, k, ⟨a, b, z, h1, h2⟩ => ⟨a, b, z, h1.mv s fun q y => k q (by rw [z]; exact List.mem_append_left _ y), RpE.mv s (fun q y => k q (by rw [z]; exact List.mem_append_right _ y)) h2⟩
theorem Rp1.trk {v : V} {x : It1} {l : List Addr} (h : Rp1 K H G v x l) : ∀ q ∈ l, ∃ o, H q = some o ∧ NT o := by
  cases x with
  | dat d => intro q z; rw [h.1] at z; cases z
  | own ds =>
    obtain ⟨p, us, e1, e2, e3, e4⟩ := h
    intro q z
    rw [e2] at z
    cases List.mem_singleton.mp z
    exact ⟨_, e3, trivial⟩
theorem Rp1s.trk : ∀ {vs : List V} {xs : List It1} {l : List Addr}, Rp1s K H G vs xs l → ∀ q ∈ l, ∃ o, H q = some o ∧ NT o
  | [], [], l, h => fun q z => by rw [show l = [] from h] at z; cases z
  | v :: vs, x :: xs, l, ⟨a, b, e, h1, h2⟩ => fun q z => by
    rw [e] at z
    exact (List.mem_append.mp z).elim (h1.trk q) (Rp1s.trk h2 q)
theorem RpW.trk {v : V} {w : Wv} {l : List Addr} (h : RpW K H G v w l) : ∀ q ∈ l, ∃ o, H q = some o ∧ NT o := by
  cases w with
  | dat d => intro q z; rw [h.1] at z; cases z
  | own xs =>
    obtain ⟨p, vs, b, e1, e2, e3, e4⟩ := h
    intro q z
    rw [e2] at z
    rcases List.mem_cons.mp z with z | z
    · cases z; exact ⟨_, e3, trivial⟩
    · exact e4.trk q z
  | exc C f d => intro q z; rw [h.1] at z; cases z
  | dct ks =>
    obtain ⟨p, e1, e2, e3⟩ := h
    intro q z
    rw [e2] at z
    cases List.mem_singleton.mp z
    exact ⟨_, e3, trivial⟩
theorem RpE.trk : ∀ {σ : St} {env : En} {l : List Addr}, RpE K H G σ env l → ∀ q ∈ l, ∃ o, H q = some o ∧ NT o
  | [], [], l, h => fun q z => by rw [show l = [] from h] at z; cases z
  | s :: σ, e :: env, l, ⟨a, b, z, h1, h2⟩ => fun q y => by
    rw [z] at y
    refine (List.mem_append.mp y).elim (fun y => ?_) (RpE.trk h2 q)
    cases e with
    | none => rw [show a = [] from h1] at y; cases y
    | some w => obtain ⟨v, _, h1⟩ := h1; exact h1.trk q y
/-- one slot, and what may come in its place -/
theorem RpE.focus : ∀ {σ : St} {env : En} {l : List Addr} {i : Nat} {e : Option Wv}, RpE K H G σ env l → env[i]? = some e → ∃ s a lx ly, σ[i]? = some s ∧ l = lx ++ (a ++ ly) ∧ RpS K H G s e a ∧
    ∀ {H' G' : Hp} {s' : Option V} {e' : Option Wv} {a' : List Addr}, Same G G' → (∀ q ∈ lx, H' q = H q) → (∀ q ∈ ly, H' q = H q) → RpS K H' G' s' e' a' → RpE K H' G' (σ.set i s') (env.set i e') (lx ++ (a' ++ ly))
  | [], [], l, i, e, h, q => by simp at q
  | s :: σ, e :: env, l, 0, _, ⟨a, b, z, h1, h2⟩, q => by
    cases q
    refine ⟨s, a, [], b, rfl, z, h1, fun {H' G' s' e' a'} sg kx ky h' => ⟨a', b, rfl, h', h2.mv sg ky⟩⟩
  | s :: σ, e :: env, l, i + 1, e0, ⟨a, b, z, h1, h2⟩, q => by
    obtain ⟨s0, a0, lx, ly, q1, q2, q3, q4⟩ := RpE.focus (i := i) (e := e0) h2 q
    refine ⟨s0, a0, a ++ lx, ly, q1, by rw [z, q2, List.append_assoc], q3, fun {H' G' s' e' a'} sg kx ky h' => ?_⟩
    refine ⟨a, lx ++ (a' ++ ly), by rw [List.append_assoc], h1.mv sg fun q y => kx q (List.mem_append_left _ y), q4 sg (fun q y => kx q (List.mem_append_right _ y)) ky h'⟩
theorem RpE.len : ∀ {σ : St} {env : En} {l : List Addr}, RpE K H G σ env l → σ.length = env.length
  | [], [], _, _ => rfl
  | _ :: _, _ :: _, _, ⟨_, _, _, _, h⟩ => congrArg (· + 1) (RpE.len h)
end
/-- the slots hold what env says, the lists owned standing at l, beside the lists B of others -/
structure Rep (K : PySem.W.Frag) (B : Addr → Prop) (σ : St) (H : Hp) (env : En) (l : List Addr) : Prop where
  rp : RpE K H (off (un B l) H) σ env l
  nd : l.Nodup
  out : ∀ b ∈ l, ¬ B b
  tb : ∀ b, B b → ∃ o, H b = some o ∧ NT o
section
variable {K : PySem.W.Frag} {B B' : Addr → Prop} {σ : St} {H H' H1 H2 : Hp} {env : En} {l l' : List Addr}
theorem off_mono {S S' : Addr → Prop} {H H' : Hp} (hS : ∀ b, S' b → ¬ S b → H b = none) (s : ∀ b o, ¬ S b → H b = some o → H' b = some o) : Same (off S H) (off S' H') := fun b o h => by
  obtain ⟨n, e⟩ := off_at h
  rw [off_ne fun z => by rw [hS b z n] at e; cases e]
  exact s b o n e
theorem Fr.refl (l : List Addr) (H : Hp) : Fr l H H := fun _ _ _ h => h
theorem Fr.of {l : List Addr} (s : Same H H') : Fr l H H' := fun b o _ h => s b o h
theorem Fr.trans (a : Fr l H H1) (b : Fr l H1 H2) : Fr l H H2 := fun c o n h => b c o n (a c o n h)
theorem Fr.keep (f : Fr l H H') : Same (off (un B l) H) (off (un B l) H') := off_mono (fun b z n => absurd z n) fun b o n h => f b o (fun z => n (.inr z)) h
theorem Rep.tl (r : Rep K B σ H env l) : ∀ b, un B l b → ∃ o, H b = some o ∧ NT o := fun b z => z.elim (r.tb b) fun z => r.rp.trk b z
theorem Rep.fresh (r : Rep K B σ H env l) {p : Addr} (h : H p = none) : ¬ un B l p := fun z => by
  obtain ⟨o, e, _⟩ := r.tl p z
  rw [h] at e
  cases e
/-- the heap grows; more lists may stand beside -/
theorem Rep.grow (r : Rep K B σ H env l) (s : Same H H') (h1 : ∀ b, B b → B' b) (h2 : ∀ b, B' b → B b ∨ H b = none) (h3 : ∀ b, B' b → ∃ o, H' b = some o ∧ NT o) : Rep K B' σ H' env l := by
  have t := r.rp.trk
  refine ⟨r.rp.mv ?_ fun q z => ?_, r.nd, fun b z y => (h2 b y).elim (r.out b z) fun e => r.fresh e (.inr z), h3⟩
  · exact off_mono (fun b z n => z.elim (fun z => (h2 b z).elim (fun z => absurd (.inl z) n) id) fun z => absurd (.inr z) n) fun b o n h => s b o h
  · obtain ⟨us, e, _⟩ := t q z
    rw [e, s _ _ e]
theorem Rep.same (r : Rep K B σ H env l) (s : Same H H') : Rep K B σ H' env l := r.grow s (fun _ z => z) (fun _ z => .inl z) fun b z => by
  obtain ⟨o, e, n⟩ := r.tb b z
  exact ⟨o, s _ _ e, n⟩
/-- fewer lists beside -/
theorem Rep.less (r : Rep K B' σ H env l) (h : ∀ b, B b → B' b) : Rep K B σ H env l :=
  ⟨r.rp.mv (off_mono (fun b z n => absurd (z.elim (fun z => .inl (h b z)) .inr) n) fun b o n e => e) fun _ _ => rfl, r.nd, fun b z y => r.out b z (h b y), fun b z => r.tb b (h b z)⟩
theorem Rep.len (r : Rep K B σ H env l) : σ.length = env.length := r.rp.len
end
/-! results -/
inductive R where
  | dat (d : PyData)
  | slot (i : Nat)
  | exc (C : Addr) (f : Str) (d : PyData)
def RpR (K : PySem.W.Frag) (G : Hp) (σ : St) (v : V) (r : R) : Prop :=
  match r with
  | .dat d => Da K G v d
  | .slot i => σ[i]? = some (some v)
  | .exc C f d => ∃ a u, v = .ref a ∧ Cau K G a C [(f, u)] ∧ Da K G u d
theorem RpR.mv {K : PySem.W.Frag} {G G' : Hp} {σ : St} {v : V} {r : R} (s : Same G G') (h : RpR K G σ v r) : RpR K G' σ v r := by
  cases r with
  | dat d => exact Da.same s d h
  | slot i => exact h
  | exc C f d =>
    obtain ⟨a, u, e1, e2, e3⟩ := h
    exact ⟨a, u, e1, e2.same s, Da.same s d e3⟩
inductive Rs (α : Type) where
  | ok (a : α) (env : En)
  | ex (C : Addr) (f : Str) (d : PyData)
def M (α : Type) := En → Option (Rs α)
def M.bind {α β : Type} (x : M α) (f : α → M β) : M β := fun env =>
  match x env with
  | none => none
  | some (.ok a e) => f a e
  | some (.ex C g d) => some (.ex C g d)
def M.pure {α : Type} (a : α) : M α := fun env => some (.ok a env)
instance : Monad M where
  pure := M.pure
  bind := M.bind
def lift {α : Type} (o : Option α) : M α := fun env => o.map fun a => .ok a env
def itd : It1 → Option PyData
  | .dat d => some d
  | .own _ => none
def itds : List It1 → Option (List PyData)
  | [] => some []
  | .dat d :: r => (itds r).map (d :: ·)
  | .own _ :: _ => none
/-- a list of data as a list owned -/
def dats (ds : List PyData) : List It1 := ds.map .dat
theorem itds_dats (ds : List PyData) : itds (dats ds) = some ds := by
  induction ds with
  | nil => rfl
  | cons d r ih => show (itds (dats r)).map (d :: ·) = _; rw [ih]; rfl
theorem itds_eq : ∀ {xs : List It1} {ds : List PyData}, itds xs = some ds → xs = dats ds
  | [], ds, h => by cases h; rfl
  | .dat d :: r, ds, h => by
    obtain ⟨q, e1, e2⟩ := Option.map_eq_some_iff.mp (show (itds r).map (d :: ·) = some ds from h)
    subst e2
    rw [itds_eq e1]
    rfl
  | .own _ :: _, ds, h => by cases h
/-- the data of a result, as it stands -/
def vw (r : R) : M PyData := fun env =>
  match r with
  | .dat d => some (.ok d env)
  | .slot i =>
    match env[i]? with
    | some (some (.own xs)) => (itds xs).map fun ds => .ok (.list ds) env
    | _ => none
  | .exc _ _ _ => none
/-- data to be read: the outermost list may be one that is owned -/
def Vw (K : PySem.W.Frag) (S : Addr → Prop) (H : Hp) (v : V) (d : PyData) : Prop :=
  Da K (off S H) v d ∨ ∃ p vs ds, v = .ref p ∧ d = .list ds ∧ H p = some (.lst vs) ∧ DaAll K (off S H) vs ds
theorem rp1s_dats {K : PySem.W.Frag} {H G : Hp} : ∀ {vs : List V} {ds : List PyData} {l : List Addr}, Rp1s K H G vs (dats ds) l → l = [] ∧ DaAll K G vs ds
  | [], [], l, h => ⟨h, .nil⟩
  | v :: vs, d :: ds, l, ⟨a, b, e, h1, h2⟩ => by
    obtain ⟨e2, h3⟩ := rp1s_dats h2
    exact ⟨by rw [e, h1.1, e2]; rfl, .cons h1.2 h3⟩
  | [], _ :: _, _, h => h.elim
  | _ :: _, [], _, h => h.elim
theorem rp1s_of {K : PySem.W.Frag} {H G : Hp} : ∀ {vs : List V} {ds : List PyData}, DaAll K G vs ds → Rp1s K H G vs (dats ds) []
  | _, _, .nil => rfl
  | _, _, .cons h t => ⟨[], [], rfl, ⟨rfl, h⟩, rp1s_of t⟩
theorem vw_ok {K : PySem.W.Frag} {B : Addr → Prop} {σ : St} {H : Hp} {env env' : En} {l : List Addr} {v : V} {r : R} {d : PyData} (h : Rep K B σ H env l) (q : RpR K (off (un B l) H) σ v r) (e : vw r env = some (.ok d env')) : env' = env ∧ Vw K (un B l) H v d := by
  cases r with
  | dat d' => cases e; exact ⟨rfl, .inl q⟩
  | exc _ _ _ => cases e
  | slot i =>
    unfold vw at e
    simp only at e
    split at e
    · rename_i xs hx
      obtain ⟨ds, e1, e2⟩ := Option.map_eq_some_iff.mp e
      cases e2
      have hx2 := itds_eq e1
      subst hx2
      obtain ⟨s, a, lx, ly, q1, q2, ⟨v', q3, p, vs, b, q4, q5, q6, q7⟩, _⟩ := h.rp.focus hx
      rw [show σ[i]? = some (some v) from q] at q1
      cases q1
      cases q3
      exact ⟨rfl, .inr ⟨p, vs, ds, q4, rfl, q6, (rp1s_dats q7).2⟩⟩
    · cases e
theorem vw_noex {r : R} {env : En} {C : Addr} {f : Str} {d : PyData} : vw r env ≠ some (.ex C f d) := by
  unfold vw
  intro e
  split at e
  · cases e
  · split at e
    · obtain ⟨_, _, e2⟩ := Option.map_eq_some_iff.mp e
      cases e2
    · cases e
  · cases e
end Ov

set_option Elab.async false
set_option linter.all false
set_option maxRecDepth 100000
set_option maxHeartbeats 4000000
namespace Ov
open PySem L2
/-! readings held against plain functions: expressions -/
def Exn (K : PySem.W.Frag) (E : XK) (B : Addr → Prop) (H : Hp) (l : List Addr) (C : Addr) (f : Str) (d : PyData) : Prop :=
  ∀ dx H' v, Fr l H H' → ¬ B dx → H' dx = some (.xd [(f, v)]) → Da K (off B H') v d → E (.ref C) (some dx) H'
theorem Exn.later {K : PySem.W.Frag} {E : XK} {B : Addr → Prop} {H H1 : Hp} {l : List Addr} {C : Addr} {f : Str} {d : PyData} (x : Exn K E B H l C f d) (s : Fr l H H1) : Exn K E B H1 l C f d :=
  fun dx H' v fr n h q => x dx H' v (s.trans fr) n h q
def PostE (K : PySem.W.Frag) (E : XK) (B : Addr → Prop) (σ : St) (H : Hp) (l : List Addr) (rs : Rs R) (Q : VK) : Prop :=
  match rs with
  | .ok r env' => ∀ v H', Rep K B σ H' env' l → Fr l H H' → RpR K (off (un B l) H') σ v r → Q v H'
  | .ex C f d => Exn K E B H l C f d
def PostT (K : PySem.W.Frag) (E : XK) (B : Addr → Prop) (σ : St) (H : Hp) (l : List Addr) (rs : Rs Bool) (Q : Bool → Hp → Prop) : Prop :=
  match rs with
  | .ok b env' => ∀ H', Rep K B σ H' env' l → Fr l H H' → Q b H'
  | .ex C f d => Exn K E B H l C f d
def RpRs (K : PySem.W.Frag) (G : Hp) (σ : St) : List V → List R → Prop
  | [], [] => True
  | v :: vs, r :: rs => RpR K G σ v r ∧ RpRs K G σ vs rs
  | _, _ => False
theorem RpRs.mv {K : PySem.W.Frag} {G G' : Hp} {σ : St} (s : Same G G') : ∀ {vs : List V} {rs : List R}, RpRs K G σ vs rs → RpRs K G' σ vs rs
  | [], [], _ => trivial
  | _ :: _, _ :: _, h => ⟨h.1.mv s, h.2.mv s⟩
def PostA (K : PySem.W.Frag) (E : XK) (B : Addr → Prop) (σ : St) (H : Hp) (l : List Addr) (rs : Rs (List R)) (Q : List V → Hp → Prop) : Prop :=
  match rs with
  | .ok r env' => ∀ vs H', Rep K B σ H' env' l → Fr l H H' → RpRs K (off (un B l) H') σ vs r → Q vs H'
  | .ex C f d => Exn K E B H l C f d
structure OkE (K : PySem.W.Frag) (E : XK) (t : TE) (f : M R) : Prop where
  run : ∀ {B : Addr → Prop} {σ : St} {H : Hp} {env : En} {l : List Addr} {rs : Rs R}, Rep K B σ H env l → f env = some rs → ∀ {Q : VK}, PostE K E B σ H l rs Q → t σ H Q
structure OkT (K : PySem.W.Frag) (E : XK) (t : TT) (f : M Bool) : Prop where
  run : ∀ {B : Addr → Prop} {σ : St} {H : Hp} {env : En} {l : List Addr} {rs : Rs Bool}, Rep K B σ H env l → f env = some rs → ∀ {Q : Bool → Hp → Prop}, PostT K E B σ H l rs Q → t σ H Q
structure OkA (K : PySem.W.Frag) (E : XK) (t : TA) (f : M (List R)) : Prop where
  run : ∀ {B : Addr → Prop} {σ : St} {H : Hp} {env : En} {l : List Addr} {rs : Rs (List R)}, Rep K B σ H env l → f env = some rs → ∀ {Q : List V → Hp → Prop}, PostA K E B σ H l rs Q → t σ H Q
theorem bind_some {α β : Type} {x : M α} {f : α → M β} {env : En} {rs : Rs β} (h : (M.bind x f) env = some rs) : (∃ a e, x env = some (.ok a e) ∧ f a e = some rs) ∨ ∃ C g d, x env = some (.ex C g d) ∧ rs = .ex C g d := by
  unfold M.bind at h
  split at h
  · cases h
  · exact .inl ⟨_, _, by assumption, h⟩
  · cases h
    exact .inr ⟨_, _, _, by assumption, rfl⟩
theorem lift_some {α : Type} {o : Option α} {env : En} {rs : Rs α} (h : lift o env = some rs) : ∃ a, o = some a ∧ rs = .ok a env := by
  obtain ⟨a, e1, e2⟩ := Option.map_eq_some_iff.mp h
  exact ⟨a, e1, e2.symm⟩
section
variable {K : PySem.W.Frag} {E : XK}
/-- take the first step of a bind: its exception is passed on -/
theorem OkE.seq {α : Type} {ta : TE} {fa : M R} {g : R → M α} (oa : OkE K E ta fa) {B : Addr → Prop} {σ : St} {H : Hp} {env : En} {l : List Addr} {rs : Rs α} (r : Rep K B σ H env l) (h : (M.bind fa g) env = some rs) {Q : VK}
    (hx : ∀ C f d, rs = .ex C f d → Exn K E B H l C f d) (hq : ∀ a e v H', g a e = some rs → Rep K B σ H' e l → Fr l H H' → RpR K (off (un B l) H') σ v a → Q v H') : ta σ H Q := by
  rcases bind_some h with ⟨a, e, h1, h2⟩ | ⟨C, f, d, h1, h2⟩
  · exact oa.run r h1 (fun v H' r' fr q => hq a e v H' h2 r' fr q)
  · exact oa.run r h1 (hx C f d h2)
theorem OkA.seq {α : Type} {ta : TA} {fa : M (List R)} {g : List R → M α} (oa : OkA K E ta fa) {B : Addr → Prop} {σ : St} {H : Hp} {env : En} {l : List Addr} {rs : Rs α} (r : Rep K B σ H env l) (h : (M.bind fa g) env = some rs) {Q : List V → Hp → Prop}
    (hx : ∀ C f d, rs = .ex C f d → Exn K E B H l C f d) (hq : ∀ a e v H', g a e = some rs → Rep K B σ H' e l → Fr l H H' → RpRs K (off (un B l) H') σ v a → Q v H') : ta σ H Q := by
  rcases bind_some h with ⟨a, e, h1, h2⟩ | ⟨C, f, d, h1, h2⟩
  · exact oa.run r h1 (fun v H' r' fr q => hq a e v H' h2 r' fr q)
  · exact oa.run r h1 (hx C f d h2)
theorem OkT.seq {α : Type} {ta : TT} {fa : M Bool} {g : Bool → M α} (oa : OkT K E ta fa) {B : Addr → Prop} {σ : St} {H : Hp} {env : En} {l : List Addr} {rs : Rs α} (r : Rep K B σ H env l) (h : (M.bind fa g) env = some rs) {Q : Bool → Hp → Prop}
    (hx : ∀ C f d, rs = .ex C f d → Exn K E B H l C f d) (hq : ∀ a e H', g a e = some rs → Rep K B σ H' e l → Fr l H H' → Q a H') : ta σ H Q := by
  rcases bind_some h with ⟨a, e, h1, h2⟩ | ⟨C, f, d, h1, h2⟩
  · exact oa.run r h1 (fun H' r' fr => hq a e H' h2 r' fr)
  · exact oa.run r h1 (hx C f d h2)
theorem PostE.exn {B : Addr → Prop} {σ : St} {H : Hp} {l : List Addr} {rs : Rs R} {Q : VK} (h : PostE K E B σ H l rs Q) : ∀ C f d, rs = .ex C f d → Exn K E B H l C f d := fun C f d e => by subst e; exact h
theorem PostT.exn {B : Addr → Prop} {σ : St} {H : Hp} {l : List Addr} {rs : Rs Bool} {Q : Bool → Hp → Prop} (h : PostT K E B σ H l rs Q) : ∀ C f d, rs = .ex C f d → Exn K E B H l C f d := fun C f d e => by subst e; exact h
theorem PostA.exn {B : Addr → Prop} {σ : St} {H : Hp} {l : List Addr} {rs : Rs (List R)} {Q : List V → Hp → Prop} (h : PostA K E B σ H l rs Q) : ∀ C f d, rs = .ex C f d → Exn K E B H l C f d := fun C f d e => by subst e; exact h
theorem exn_later {α : Type} {B : Addr → Prop} {H H1 : Hp} {l : List Addr} {rs : Rs α} (h : ∀ C f d, rs = .ex C f d → Exn K E B H l C f d) (s : Fr l H H1) : ∀ C f d, rs = .ex C f d → Exn K E B H1 l C f d := fun C f d e => (h C f d e).later s
theorem PostE.later {B : Addr → Prop} {σ : St} {H H1 : Hp} {l : List Addr} {rs : Rs R} {Q : VK} (h : PostE K E B σ H l rs Q) (s : Fr l H H1) : PostE K E B σ H1 l rs Q := by
  cases rs with
  | ok r env => exact fun v H' r' fr q => h v H' r' (s.trans fr) q
  | ex C f d => exact Exn.later h s
theorem PostT.later {B : Addr → Prop} {σ : St} {H H1 : Hp} {l : List Addr} {rs : Rs Bool} {Q : Bool → Hp → Prop} (h : PostT K E B σ H l rs Q) (s : Fr l H H1) : PostT K E B σ H1 l rs Q := by
  cases rs with
  | ok r env => exact fun H' r' fr => h H' r' (s.trans fr)
  | ex C f d => exact Exn.later h s
/-! names, constants -/
def get (i : Nat) : M R := fun env =>
  match env[i]? with
  | some (some (.dat d)) => some (.ok (.dat d) env)
  | some (some (.own _)) => some (.ok (.slot i) env)
  | some (some (.exc C f d)) => some (.ok (.exc C f d) env)
  | some (some (.dct _)) => some (.ok (.slot i) env)
  | _ => none
theorem OkE.var (i : Nat) : OkE K E (tVar i) (get i) := by
  refine ⟨?_⟩
  intro B σ H env l rs r h Q post
  unfold get at h
  cases q : env[i]? with
  | none => rw [q] at h; cases h
  | some e =>
    cases e with
    | none => rw [q] at h; cases h
    | some w =>
      rw [q] at h
      obtain ⟨s, a, lx, ly, q1, q2, ⟨v, q3, q4⟩, _⟩ := r.rp.focus q
      subst q3
      refine ⟨v, q1, ?_⟩
      cases w with
      | dat d => cases h; exact post v H r (Fr.refl _ _) q4.2
      | own xs => cases h; exact post v H r (Fr.refl _ _) q1
      | exc C f d => cases h; exact post v H r (Fr.refl _ _) q4.2
      | dct ks => cases h; exact post v H r (Fr.refl _ _) q1
def con (d : PyData) : M R := M.pure (.dat d)
theorem OkE.con {v : V} {d : PyData} (hd : ∀ H : Hp, Da K H v d) : OkE K E (fun _ H Q => Q v H) (con d) := by
  refine ⟨?_⟩
  intro B σ H env l rs r h Q post
  cases h
  exact post v H r (Fr.refl _ _) (hd _)
/-! operations -/
def OpOk (K : PySem.W.Frag) (r : R2) (fo : PyData → PyData → Option PyData) : Prop := ∀ {S : Addr → Prop} {H : Hp} {x y : V} {a b d : PyData}, (∀ q, S q → ∃ o, H q = some o ∧ NT o) → Vw K S H x a → Vw K S H y b → fo a b = some d →
  ∀ {Q : VK}, (∀ v H', Same H H' → Da K (off S H') v d → Q v H') → r x y H Q
def UnOk (K : PySem.W.Frag) (r : V → Hp → VK → Prop) (fo : PyData → Option PyData) : Prop := ∀ {S : Addr → Prop} {H : Hp} {x : V} {a d : PyData}, (∀ q, S q → ∃ o, H q = some o ∧ NT o) → Vw K S H x a → fo a = some d →
  ∀ {Q : VK}, (∀ v H', Same H H' → Da K (off S H') v d → Q v H') → r x H Q
inductive VwAll (K : PySem.W.Frag) (S : Addr → Prop) (H : Hp) : List V → List PyData → Prop
  | nil : VwAll K S H [] []
  | cons {v : V} {vs : List V} {d : PyData} {ds : List PyData} : Vw K S H v d → VwAll K S H vs ds → VwAll K S H (v :: vs) (d :: ds)
def CbOk (K : PySem.W.Frag) (r : List V → Hp → VK → Prop) (fo : List PyData → Option PyData) : Prop := ∀ {S : Addr → Prop} {H : Hp} {xs : List V} {as : List PyData} {d : PyData}, (∀ q, S q → ∃ o, H q = some o ∧ NT o) → VwAll K S H xs as → fo as = some d →
  ∀ {Q : VK}, (∀ v H', Same H H' → Da K (off S H') v d → Q v H') → r xs H Q
def op2 (fo : PyData → PyData → Option PyData) (fa fb : M R) : M R := M.bind fa fun a => M.bind fb fun b => M.bind (vw a) fun x => M.bind (vw b) fun y => M.bind (lift (fo x y)) fun d => M.pure (.dat d)
def op1 (fo : PyData → Option PyData) (fa : M R) : M R := M.bind fa fun a => M.bind (vw a) fun x => M.bind (lift (fo x)) fun d => M.pure (.dat d)
theorem vw_step {α : Type} {B : Addr → Prop} {σ : St} {H : Hp} {env : En} {l : List Addr} {v : V} {r : R} {g : PyData → M α} {rs : Rs α} (h : Rep K B σ H env l) (q : RpR K (off (un B l) H) σ v r) (e : (M.bind (vw r) g) env = some rs) :
    ∃ d, g d env = some rs ∧ Vw K (un B l) H v d := by
  rcases bind_some e with ⟨a, e1, h1, h2⟩ | ⟨C, f, d, h1, _⟩
  · obtain ⟨rfl, q2⟩ := vw_ok h q h1
    exact ⟨a, h2, q2⟩
  · exact absurd h1 vw_noex
theorem lift_step {α β : Type} {o : Option α} {g : α → M β} {env : En} {rs : Rs β} (e : (M.bind (lift o) g) env = some rs) : ∃ a, o = some a ∧ g a env = some rs := by
  rcases bind_some e with ⟨a, e1, h1, h2⟩ | ⟨C, f, d, h1, _⟩
  · obtain ⟨b, e2, e3⟩ := lift_some h1
    cases e3
    exact ⟨a, e2, h2⟩
  · obtain ⟨b, e2, e3⟩ := lift_some h1
    cases e3
theorem OkE.op {r : R2} {fo : PyData → PyData → Option PyData} {ta tb : TE} {fa fb : M R} (o : OpOk K r fo) (oa : OkE K E ta fa) (ob : OkE K E tb fb) : OkE K E (tOp r ta tb) (op2 fo fa fb) := by
  refine ⟨?_⟩
  intro B σ H env l rs rp h Q post
  refine oa.seq rp h post.exn fun a e v1 H1 h1 r1 f1 q1 => ?_
  refine ob.seq r1 h1 (exn_later post.exn f1) fun b e2 v2 H2 h2 r2 f2 q2 => ?_
  obtain ⟨x, h3, w1⟩ := vw_step r2 (q1.mv f2.keep) h2
  obtain ⟨y, h4, w2⟩ := vw_step r2 q2 h3
  obtain ⟨d, h5, h6⟩ := lift_step h4
  cases h6
  exact o r2.tl w1 w2 h5 fun v H' s q => post v H' (r2.same s) ((f1.trans f2).trans (Fr.of s)) q
theorem OkE.un {r : V → Hp → VK → Prop} {fo : PyData → Option PyData} {ta : TE} {fa : M R} (o : UnOk K r fo) (oa : OkE K E ta fa) : OkE K E (tUn r ta) (op1 fo fa) := by
  refine ⟨?_⟩
  intro B σ H env l rs rp h Q post
  refine oa.seq rp h post.exn fun a e v1 H1 h1 r1 f1 q1 => ?_
  obtain ⟨x, h3, w1⟩ := vw_step r1 q1 h1
  obtain ⟨d, h5, h6⟩ := lift_step h3
  cases h6
  exact o r1.tl w1 h5 fun v H' s q => post v H' (r1.same s) (f1.trans (Fr.of s)) q
/-! arguments -/
def anil : M (List R) := M.pure []
def acons (fa : M R) (fr : M (List R)) : M (List R) := M.bind fa fun a => M.bind fr fun r => M.pure (a :: r)
theorem OkA.nil : OkA K E tNil anil := by
  refine ⟨?_⟩
  intro B σ H env l rs rp h Q post
  cases h
  exact post [] H rp (Fr.refl _ _) trivial
theorem OkA.cons {ta : TE} {tr : TA} {fa : M R} {fr : M (List R)} (oa : OkE K E ta fa) (or : OkA K E tr fr) : OkA K E (tCons ta tr) (acons fa fr) := by
  refine ⟨?_⟩
  intro B σ H env l rs rp h Q post
  refine oa.seq rp h post.exn fun a e v1 H1 h1 r1 f1 q1 => ?_
  refine or.seq r1 h1 (exn_later post.exn f1) fun b e2 v2 H2 h2 r2 f2 q2 => ?_
  cases h2
  exact post (v1 :: v2) H2 r2 (f1.trans f2) ⟨q1.mv f2.keep, q2⟩
def vws : List R → M (List PyData)
  | [] => M.pure []
  | r :: rs => M.bind (vw r) fun d => M.bind (vws rs) fun ds => M.pure (d :: ds)
theorem vws_ok {B : Addr → Prop} {σ : St} {H : Hp} {env : En} {l : List Addr} (h : Rep K B σ H env l) : ∀ {vs : List V} {rs : List R} {α : Type} {g : List PyData → M α} {z : Rs α}, RpRs K (off (un B l) H) σ vs rs → (M.bind (vws rs) g) env = some z → ∃ ds, g ds env = some z ∧ VwAll K (un B l) H vs ds
  | [], [], α, g, z, _, e => ⟨[], e, .nil⟩
  | v :: vs, r :: rs, α, g, z, q, e => by
    have e' : (M.bind (vw r) fun d => M.bind (vws rs) fun ds => g (d :: ds)) env = some z := by
      rw [← e]
      show _ = (M.bind (M.bind (vw r) fun d => M.bind (vws rs) fun ds => M.pure (d :: ds)) g) env
      unfold M.bind
      cases vw r env with
      | none => rfl
      | some a =>
        cases a with
        | ok a e2 =>
          simp only
          cases vws rs e2 with
          | none => rfl
          | some b => cases b <;> rfl
        | ex _ _ _ => rfl
    obtain ⟨d, e2, w⟩ := vw_step h q.1 e'
    obtain ⟨ds, e3, w2⟩ := vws_ok h q.2 e2
    exact ⟨d :: ds, e3, .cons w w2⟩
def cb (fo : List PyData → Option PyData) (fa : M (List R)) : M R := M.bind fa fun a => M.bind (vws a) fun ds => M.bind (lift (fo ds)) fun d => M.pure (.dat d)
theorem OkE.cb {r : List V → Hp → VK → Prop} {fo : List PyData → Option PyData} {t : TA} {fa : M (List R)} (o : CbOk K r fo) (oa : OkA K E t fa) : OkE K E (tCB r t) (Ov.cb fo fa) := by
  refine ⟨?_⟩
  intro B σ H env l rs rp h Q post
  refine oa.seq rp h post.exn fun a e vs H1 h1 r1 f1 q1 => ?_
  obtain ⟨ds, h2, w⟩ := vws_ok r1 q1 h1
  obtain ⟨d, h5, h6⟩ := lift_step h2
  cases h6
  exact o r1.tl w h5 fun v H' s q => post v H' (r1.same s) (f1.trans (Fr.of s)) q
/-! data that a new object holds -/
theorem Vw.da {S : Addr → Prop} {H : Hp} {v : V} {d : PyData} (h : Vw K S H v d) : Da K H v d := by
  rcases h with h | ⟨p, vs, ds, e1, e2, e3, e4⟩
  · exact Da.same (off_sub S H) d h
  · subst e1 e2
    exact .lst (SqL.of e3) (DaAll.same (off_sub S H) ds e4)
/-- results that are data through and through -/
def dds : List R → Option (List PyData)
  | [] => some []
  | .dat d :: r => (dds r).map (d :: ·)
  | _ :: _ => none
theorem dds_ok {G : Hp} {σ : St} : ∀ {vs : List V} {rs : List R} {ds : List PyData}, RpRs K G σ vs rs → dds rs = some ds → DaAll K G vs ds
  | [], [], ds, _, e => by cases e; exact .nil
  | v :: vs, .dat d :: rs, ds, q, e => by
    obtain ⟨x, e1, e2⟩ := Option.map_eq_some_iff.mp (show (dds rs).map (d :: ·) = some ds from e)
    subst e2
    exact .cons q.1 (dds_ok q.2 e1)
  | v :: vs, .slot i :: rs, ds, q, e => by cases e
  | v :: vs, .exc _ _ _ :: rs, ds, q, e => by cases e
theorem new_dp {S : Addr → Prop} {H : Hp} {p : Addr} {vs : List V} {ds : List PyData} (hS : ∀ q, S q → ∃ o, H q = some o ∧ NT o) (hp : H p = none) (h : DaAll K (off S H) vs ds) :
    Da K (off S (upd H p (.lst vs))) (.ref p) (.list ds) ∧ Da K (off S (upd H p (.tup vs))) (.ref p) (.tuple ds) := by
  have np : ¬ S p := fun z => by obtain ⟨o, e, _⟩ := hS p z; rw [hp] at e; cases e
  have k : ∀ o, Same (off S H) (off S (upd H p o)) := fun o => off_mono (fun b z n => absurd z n) fun b u n e => by rw [upd_ne (ne_of_none e hp)]; exact e
  exact ⟨.lst (SqL.of ((off_ne np).trans upd_same)) (DaAll.same (k _) ds h), .tup (off_tup np upd_same) (DaAll.same (k _) ds h)⟩
def sz (n : Nat) : Option Unit := if n ≤ 1000000 then some () else none
theorem sz_ok {n : Nat} {u : Unit} (h : sz n = some u) : n ≤ sizeLine := by
  unfold sz at h
  split at h
  · exact Nat.le_trans (by assumption) (by decide)
  · cases h
def tupD (fa : M (List R)) : M R := M.bind fa fun a => M.bind (lift (dds a)) fun ds => M.bind (lift (sz ds.length)) fun _ => M.pure (.dat (.tuple ds))
def lstD (fa : M (List R)) : M R := M.bind fa fun a => M.bind (lift (dds a)) fun ds => M.bind (lift (sz ds.length)) fun _ => M.pure (.dat (.list ds))
theorem OkE.tup {t : TA} {fa : M (List R)} (oa : OkA K E t fa) : OkE K E (tTup t) (tupD fa) := by
  refine ⟨?_⟩
  intro B σ H env l rs rp h Q post
  refine oa.seq rp h post.exn fun a e vs H1 h1 r1 f1 q1 => ?_
  obtain ⟨ds, e1, h2⟩ := lift_step h1
  obtain ⟨u, e2, h3⟩ := lift_step h2
  cases h3
  have dp := dds_ok q1 e1
  refine ⟨by rw [daAll_len dp]; exact sz_ok e2, fun p hp => ?_⟩
  exact post _ _ (r1.same (same_new hp _)) (f1.trans (Fr.of (same_new hp _))) (new_dp r1.tl hp dp).2
theorem OkE.lst {t : TA} {fa : M (List R)} (oa : OkA K E t fa) : OkE K E (tLst t) (lstD fa) := by
  refine ⟨?_⟩
  intro B σ H env l rs rp h Q post
  refine oa.seq rp h post.exn fun a e vs H1 h1 r1 f1 q1 => ?_
  obtain ⟨ds, e1, h2⟩ := lift_step h1
  obtain ⟨u, e2, h3⟩ := lift_step h2
  cases h3
  have dp := dds_ok q1 e1
  refine ⟨by rw [daAll_len dp]; exact sz_ok e2, fun p hp => ?_⟩
  exact post _ _ (r1.same (same_new hp _)) (f1.trans (Fr.of (same_new hp _))) (new_dp r1.tl hp dp).1
/-! truth, and, or, not, if *)-/
def tb1 (fa : M R) : M Bool := M.bind fa fun a => M.bind (vw a) fun d => match d with
  | .bool b => M.pure b
  | _ => fun _ => none
theorem OkT.val {t : TE} {fa : M R} (oa : OkE K E t fa) : OkT K E (tB t) (tb1 fa) := by
  refine ⟨?_⟩
  intro B σ H env l rs rp h Q post
  refine oa.seq rp h post.exn fun a e v1 H1 h1 r1 f1 q1 => ?_
  obtain ⟨d, h2, w⟩ := vw_step r1 q1 h1
  cases d with
  | bool b =>
    cases h2
    have := w.da
    cases this
    exact ⟨b, rfl, post H1 r1 f1⟩
  | none => cases h2
  | int _ => cases h2
  | str _ => cases h2
  | list _ => cases h2
  | tuple _ => cases h2
  | dict _ => cases h2
theorem OkT.test {t : TE} {fa : M R} (oa : OkE K E t fa) : OkT K E (tTest t) (tb1 fa) := OkT.val oa
def andT (fa fb : M Bool) : M Bool := M.bind fa fun a => if a = true then fb else M.pure false
def orT (fa fb : M Bool) : M Bool := M.bind fa fun a => if a = true then M.pure true else fb
def notT (fa : M Bool) : M Bool := M.bind fa fun a => M.pure (!a)
theorem OkT.and {ta tb : TT} {fa fb : M Bool} (oa : OkT K E ta fa) (ob : OkT K E tb fb) : OkT K E (tAnd ta tb) (andT fa fb) := by
  refine ⟨?_⟩
  intro B σ H env l rs rp h Q post
  refine oa.seq rp h post.exn fun a e H1 h1 r1 f1 => ?_
  cases a with
  | true => exact iteT (ob.run r1 (by simpa using h1) (post.later f1))
  | false => refine iteF ?_; simp only [Bool.false_eq_true, if_false] at h1; cases h1; exact post H1 r1 f1
theorem OkT.or {ta tb : TT} {fa fb : M Bool} (oa : OkT K E ta fa) (ob : OkT K E tb fb) : OkT K E (tOr ta tb) (orT fa fb) := by
  refine ⟨?_⟩
  intro B σ H env l rs rp h Q post
  refine oa.seq rp h post.exn fun a e H1 h1 r1 f1 => ?_
  cases a with
  | true => refine iteT ?_; simp only [if_true] at h1; cases h1; exact post H1 r1 f1
  | false => exact iteF (ob.run r1 (by simpa using h1) (post.later f1))
theorem OkT.not {ta : TT} {fa : M Bool} (oa : OkT K E ta fa) : OkT K E (tNot ta) (notT fa) := by
  refine ⟨?_⟩
  intro B σ H env l rs rp h Q post
  refine oa.seq rp h post.exn fun a e H1 h1 r1 f1 => ?_
  cases h1
  exact post H1 r1 f1
def ofB (b : Bool) : R := .dat (.bool b)
def andV (fa fb : M R) : M R := M.bind (tb1 fa) fun a => if a = true then fb else M.pure (ofB false)
def orV (fa fb : M R) : M R := M.bind (tb1 fa) fun a => if a = true then M.pure (ofB true) else fb
def notV (fa : M R) : M R := M.bind (tb1 fa) fun a => M.pure (ofB !a)
theorem OkE.and {ta tb : TE} {fa fb : M R} (oa : OkE K E ta fa) (ob : OkE K E tb fb) : OkE K E (tAndV ta tb) (andV fa fb) := by
  refine ⟨?_⟩
  intro B σ H env l rs rp h Q post
  refine (OkT.val oa).seq rp h post.exn fun a e H1 h1 r1 f1 => ?_
  cases a with
  | true => exact iteT (ob.run r1 (by simpa using h1) (post.later f1))
  | false => refine iteF ?_; simp only [Bool.false_eq_true, if_false] at h1; cases h1; exact post _ H1 r1 f1 (.bl false)
theorem OkE.or {ta tb : TE} {fa fb : M R} (oa : OkE K E ta fa) (ob : OkE K E tb fb) : OkE K E (tOrV ta tb) (orV fa fb) := by
  refine ⟨?_⟩
  intro B σ H env l rs rp h Q post
  refine (OkT.val oa).seq rp h post.exn fun a e H1 h1 r1 f1 => ?_
  cases a with
  | true => refine iteT ?_; simp only [if_true] at h1; cases h1; exact post _ H1 r1 f1 (.bl true)
  | false => exact iteF (ob.run r1 (by simpa using h1) (post.later f1))
theorem OkE.not {ta : TE} {fa : M R} (oa : OkE K E ta fa) : OkE K E (tNotV ta) (notV fa) := by
  refine ⟨?_⟩
  intro B σ H env l rs rp h Q post
  refine (OkT.val oa).seq rp h post.exn fun a e H1 h1 r1 f1 => ?_
  cases h1
  exact post _ H1 r1 f1 (.bl _)
def ifE (ft : M Bool) (fa fb : M R) : M R := M.bind ft fun c => if c = true then fa else fb
theorem OkE.ife {tt : TT} {ta tb : TE} {ft : M Bool} {fa fb : M R} (ot : OkT K E tt ft) (oa : OkE K E ta fa) (ob : OkE K E tb fb) : OkE K E (tIf tt ta tb) (ifE ft fa fb) := by
  refine ⟨?_⟩
  intro B σ H env l rs rp h Q post
  refine ot.seq rp h post.exn fun c e H1 h1 r1 f1 => ?_
  cases c with
  | true => exact iteT (oa.run r1 (by simpa using h1) (post.later f1))
  | false => exact iteF (ob.run r1 (by simpa using h1) (post.later f1))
def chainE (fo fo' : PyData → PyData → Option PyData) (fa fb fc : M R) : M R := M.bind fa fun a => M.bind fb fun b => M.bind (vw a) fun x => M.bind (vw b) fun y => M.bind (lift (fo x y)) fun d => match d with
  | .bool k => if k = true then M.bind fc fun c => M.bind (vw b) fun y' => M.bind (vw c) fun z => M.bind (lift (fo' y' z)) fun d' => M.pure (.dat d') else M.pure (ofB false)
  | _ => fun _ => none
theorem OkE.chain {r r' : R2} {fo fo' : PyData → PyData → Option PyData} {ta tb tc : TE} {fa fb fc : M R} (o : OpOk K r fo) (o' : OpOk K r' fo') (oa : OkE K E ta fa) (ob : OkE K E tb fb) (oc : OkE K E tc fc) :
    OkE K E (tChain r r' ta tb tc) (chainE fo fo' fa fb fc) := by
  refine ⟨?_⟩
  intro B σ H env l rs rp h Q post
  refine oa.seq rp h post.exn fun a e v1 H1 h1 r1 f1 q1 => ?_
  refine ob.seq r1 h1 (exn_later post.exn f1) fun b e2 v2 H2 h2 r2 f2 q2 => ?_
  obtain ⟨x, h3, w1⟩ := vw_step r2 (q1.mv f2.keep) h2
  obtain ⟨y, h4, w2⟩ := vw_step r2 q2 h3
  obtain ⟨d, h5, h6⟩ := lift_step h4
  refine o r2.tl w1 w2 h5 fun v H3 s q => ?_
  have r3 := r2.same s
  have f3 := (f1.trans f2).trans (Fr.of s)
  cases d with
  | bool k =>
    cases q
    refine ⟨k, rfl, ?_⟩
    cases k with
    | true =>
      refine iteT ?_
      simp only [if_true] at h6
      refine oc.seq r3 h6 (exn_later post.exn f3) fun c e4 v4 H4 h7 r4 f4 q4 => ?_
      obtain ⟨y', h8, w3⟩ := vw_step r4 ((q2.mv (Fr.keep (Fr.of s))).mv f4.keep) h7
      obtain ⟨z, h9, w4⟩ := vw_step r4 q4 h8
      obtain ⟨d', ha, hb⟩ := lift_step h9
      cases hb
      exact o' r4.tl w3 w4 ha fun v H' s' q => post v H' (r4.same s') ((f3.trans f4).trans (Fr.of s')) q
    | false => refine iteF ?_; simp only [Bool.false_eq_true, if_false] at h6; cases h6; exact post _ H3 r3 f3 (.bl false)
  | none => cases h6
  | int _ => cases h6
  | str _ => cases h6
  | list _ => cases h6
  | tuple _ => cases h6
  | dict _ => cases h6
end
end Ov

set_option Elab.async false
set_option linter.all false
set_option maxRecDepth 100000
set_option maxHeartbeats 4000000
namespace Ov
open PySem L2
/-! operators by data -/
section
variable {K : PySem.W.Frag} {S : Addr → Prop} {H : Hp} {x y : V}
theorem vw_int {i : Int} (h : Vw K S H x (.int i)) : x = .int i := by have := h.da; cases this; rfl
theorem vw_bool {b : Bool} (h : Vw K S H x (.bool b)) : x = .bl b := by have := h.da; cases this; rfl
theorem vw_str {z : Str} (h : Vw K S H x (.str z)) : x = .str z := by have := h.da; cases this; rfl
theorem vw_none (h : Vw K S H x .none) : x = .non := by have := h.da; cases this; rfl
theorem vw_list {ds : List PyData} (h : Vw K S H x (.list ds)) : ∃ p vs, x = .ref p ∧ SqL K H p vs ∧ DaAll K (off S H) vs ds := by
  rcases h with h | ⟨p, vs, es, e1, e2, e3, e4⟩
  · cases h with | lst q t => exact ⟨_, _, rfl, rd_same (off_sub S H) q, t⟩
  · cases e2; exact ⟨p, vs, e1, .inl (.inl e3), e4⟩
theorem vw_tup {ds : List PyData} (h : Vw K S H x (.tuple ds)) : ∃ p vs, x = .ref p ∧ SqT K (off S H) p vs ∧ DaAll K (off S H) vs ds := by
  rcases h with h | ⟨p, vs, es, e1, e2, e3, e4⟩
  · cases h with | tup q t => exact ⟨_, _, rfl, q, t⟩
  · cases e2
end
def seqD : PyData → Option (List PyData)
  | .list ds => some ds
  | .tuple ds => some ds
  | _ => none
theorem vw_seq {K : PySem.W.Frag} {S : Addr → Prop} {H : Hp} {x : V} {d : PyData} {ds : List PyData} (h : Vw K S H x d) (e : seqD d = some ds) : ∃ p vs, x = .ref p ∧ (SqL K H p vs ∨ SqT K H p vs) ∧ DaAll K (off S H) vs ds := by
  cases d with
  | list es => cases e; obtain ⟨p, vs, e1, e2, e3⟩ := vw_list h; exact ⟨p, vs, e1, .inl (rd_sq e2), e3⟩
  | tuple es => cases e; obtain ⟨p, vs, e1, e2, e3⟩ := vw_tup h; exact ⟨p, vs, e1, .inr (seqT (off_sub S H) e2), e3⟩
  | none => cases e
  | bool _ => cases e
  | int _ => cases e
  | str _ => cases e
  | dict _ => cases e
def iI (h : Int → Int → Int) (a b : PyData) : Option PyData :=
  match a, b with
  | .int i, .int j => some (.int (h i j))
  | _, _ => none
def iIc (p : Int → Int → Bool) (h : Int → Int → Int) (a b : PyData) : Option PyData :=
  match a, b with
  | .int i, .int j => if p i j = true then some (.int (h i j)) else none
  | _, _ => none
def iB (h : Int → Int → Bool) (a b : PyData) : Option PyData :=
  match a, b with
  | .int i, .int j => some (.bool (h i j))
  | _, _ => none
section
variable {K : PySem.W.Frag}
theorem iI_some {h : Int → Int → Int} {a b d : PyData} (e : iI h a b = some d) : ∃ i j, a = .int i ∧ b = .int j ∧ d = .int (h i j) := by
  unfold iI at e
  split at e
  · cases e; exact ⟨_, _, rfl, rfl, rfl⟩
  · cases e
theorem iB_some {h : Int → Int → Bool} {a b d : PyData} (e : iB h a b = some d) : ∃ i j, a = .int i ∧ b = .int j ∧ d = .bool (h i j) := by
  unfold iB at e
  split at e
  · cases e; exact ⟨_, _, rfl, rfl, rfl⟩
  · cases e
theorem iIc_some {p : Int → Int → Bool} {h : Int → Int → Int} {a b d : PyData} (e : iIc p h a b = some d) : ∃ i j, a = .int i ∧ b = .int j ∧ p i j = true ∧ d = .int (h i j) := by
  unfold iIc at e
  split at e
  · split at e
    · cases e; exact ⟨_, _, rfl, rfl, by assumption, rfl⟩
    · cases e
  · cases e
theorem okI {h : Int → Int → Int} : OpOk K (rI0 fun i j => .int (h i j)) (iI h) := by
  intro S H x y a b d hS wa wb e Q q
  obtain ⟨i, j, rfl, rfl, rfl⟩ := iI_some e
  exact ⟨i, j, vw_int wa, vw_int wb, q _ _ (same_refl _) (.int _)⟩
theorem okB {h : Int → Int → Bool} : OpOk K (rI0 fun i j => .bl (h i j)) (iB h) := by
  intro S H x y a b d hS wa wb e Q q
  obtain ⟨i, j, rfl, rfl, rfl⟩ := iB_some e
  exact ⟨i, j, vw_int wa, vw_int wb, q _ _ (same_refl _) (.bl _)⟩
theorem okC {C : Int → Int → Prop} {p : Int → Int → Bool} {h : Int → Int → Int} (hp : ∀ i j, p i j = true → C i j) : OpOk K (rI C fun i j => .int (h i j)) (iIc p h) := by
  intro S H x y a b d hS wa wb e Q q
  obtain ⟨i, j, rfl, rfl, hc, rfl⟩ := iIc_some e
  exact ⟨i, j, vw_int wa, vw_int wb, hp i j hc, q _ _ (same_refl _) (.int _)⟩
def addD := iI (· + ·)
def subD := iI (· - ·)
def pMul (i j : Int) : Bool := decide (-(2 ^ 64) < i ∧ i < 2 ^ 64) || decide (-(2 ^ 64) < j ∧ j < 2 ^ 64)
def pDiv (_ j : Int) : Bool := decide (0 < j ∧ j < 1073741824)
def pMod (_ j : Int) : Bool := decide (0 < j)
def pPow (i j : Int) : Bool := decide (0 ≤ j ∧ j ≤ 1000000 ∧ i.natAbs < 2 ^ 64)
def mulD := iIc pMul (· * ·)
def divD := iIc pDiv (· / ·)
def modD := iIc pMod (· % ·)
def powD := iIc pPow (fun i j => i ^ j.toNat)
def ltD := iB fun i j => decide (i < j)
def leD := iB fun i j => decide (i ≤ j)
def gtD := iB fun i j => decide (j < i)
def geD := iB fun i j => decide (j ≤ i)
theorem ok_add : OpOk K (rI0 fun i j => .int (i + j)) addD := okI
theorem ok_sub : OpOk K (rI0 fun i j => .int (i - j)) subD := okI
theorem ok_lt : OpOk K (rI0 fun i j => .bl (decide (i < j))) ltD := okB
theorem ok_le : OpOk K (rI0 fun i j => .bl (decide (i ≤ j))) leD := okB
theorem ok_gt : OpOk K (rI0 fun i j => .bl (decide (j < i))) gtD := okB
theorem ok_ge : OpOk K (rI0 fun i j => .bl (decide (j ≤ i))) geD := okB
theorem ok_mul : OpOk K (rI CMul fun i j => .int (i * j)) mulD := okC fun i j h => (Bool.or_eq_true_iff.mp h).imp of_decide_eq_true of_decide_eq_true
theorem ok_div : OpOk K (rI CDiv fun i j => .int (i / j)) divD := okC fun i j h => of_decide_eq_true h
theorem ok_mod : OpOk K (rI (fun _ j => 0 < j) fun i j => .int (i % j)) modD := okC fun i j h => of_decide_eq_true h
theorem ok_pow : OpOk K (rI CPow fun i j => .int (i ^ j.toNat)) powD := okC fun i j h => of_decide_eq_true h
def negD : PyData → Option PyData
  | .int i => some (.int (-i))
  | _ => none
theorem ok_neg : UnOk K (rU fun i => .int (-i)) negD := by
  intro S H x a d hS wa e Q q
  cases a with
  | int i => cases e; exact ⟨i, vw_int wa, q _ _ (same_refl _) (.int _)⟩
  | none => cases e
  | bool _ => cases e
  | str _ => cases e
  | list _ => cases e
  | tuple _ => cases e
  | dict _ => cases e
/-! == of atoms alike; of data -/
def eqA (n : Bool) (a b : PyData) : Option PyData :=
  match a, b with
  | .int i, .int j => some (.bool (n ^^ decide (i = j)))
  | .bool i, .bool j => some (.bool (n ^^ decide (i = j)))
  | .str i, .str j => some (.bool (n ^^ decide (i = j)))
  | .none, .none => some (.bool (n ^^ true))
  | _, _ => none
theorem eqA_some {n : Bool} {a b d : PyData} {S : Addr → Prop} {H : Hp} {x y : V} (wa : Vw K S H x a) (wb : Vw K S H y b) (e : eqA n a b = some d) : scal x y = true ∧ d = .bool (n ^^ decide (x = y)) := by
  unfold eqA at e
  split at e
  · rw [vw_int wa, vw_int wb]; cases e; exact ⟨rfl, by simp⟩
  · rw [vw_bool wa, vw_bool wb]; cases e; exact ⟨rfl, by simp⟩
  · rw [vw_str wa, vw_str wb]; cases e; exact ⟨rfl, by simp⟩
  · rw [vw_none wa, vw_none wb]; cases e; exact ⟨rfl, by simp⟩
  · cases e
theorem ok_eq : OpOk K rEq (eqA false) := by
  intro S H x y a b d hS wa wb e Q q
  obtain ⟨h1, rfl⟩ := eqA_some wa wb e
  exact ⟨h1, q _ _ (same_refl _) (by rw [Bool.false_xor]; exact .bl _)⟩
theorem ok_ne : OpOk K rNe (eqA true) := by
  intro S H x y a b d hS wa wb e Q q
  obtain ⟨h1, rfl⟩ := eqA_some wa wb e
  exact ⟨h1, q _ _ (same_refl _) (by rw [Bool.true_xor]; exact .bl _)⟩
def shp (d : PyData) : Bool := SeqAt.shaped d
def eqvD (n : Bool) (a b : PyData) : Option PyData := if shp a && shp b then some (.bool (n ^^ PyData.eqv a b)) else none
theorem ok_eqD : OpOk K (rEqD K) (eqvD false) := by
  intro S H x y a b d hS wa wb e Q q
  unfold eqvD at e
  split at e
  · rename_i h
    cases e
    rw [Bool.and_eq_true] at h
    exact ⟨a, b, Da.dp _ wa.da, Da.dp _ wb.da, h.1, h.2, q _ _ (same_refl _) (by rw [Bool.false_xor]; exact .bl _)⟩
  · cases e
theorem ok_neD : OpOk K (rNeD K) (eqvD true) := by
  intro S H x y a b d hS wa wb e Q q
  unfold eqvD at e
  split at e
  · rename_i h
    cases e
    rw [Bool.and_eq_true] at h
    exact ⟨a, b, Da.dp _ wa.da, Da.dp _ wb.da, h.1, h.2, q _ _ (same_refl _) (by rw [Bool.true_xor]; exact .bl _)⟩
  · cases e
/-! in -/
def inD (n : Bool) (a b : PyData) : Option PyData :=
  match b with
  | .list ds => if shp a && shp (.list ds) then some (.bool (n ^^ ds.any fun z => PyData.eqv z a)) else none
  | _ => none
theorem ok_inD : OpOk K (rInD K) (inD false) := by
  intro S H x y a b d hS wa wb e Q q
  cases b with
  | list ds =>
    unfold inD at e
    simp only at e
    split at e
    · rename_i h
      cases e
      rw [Bool.and_eq_true] at h
      exact ⟨a, ds, Da.dp _ wa.da, Da.dp _ wb.da, h.1, h.2, q _ _ (same_refl _) (by rw [Bool.false_xor]; exact .bl _)⟩
    · cases e
  | none => cases e
  | bool _ => cases e
  | int _ => cases e
  | str _ => cases e
  | tuple _ => cases e
  | dict _ => cases e
theorem ok_notInD : OpOk K (rNotInD K) (inD true) := by
  intro S H x y a b d hS wa wb e Q q
  cases b with
  | list ds =>
    unfold inD at e
    simp only at e
    split at e
    · rename_i h
      cases e
      rw [Bool.and_eq_true] at h
      exact ⟨a, ds, Da.dp _ wa.da, Da.dp _ wb.da, h.1, h.2, q _ _ (same_refl _) (by rw [Bool.true_xor]; exact .bl _)⟩
    · cases e
  | none => cases e
  | bool _ => cases e
  | int _ => cases e
  | str _ => cases e
  | tuple _ => cases e
  | dict _ => cases e
def atomD : PyData → Bool
  | .none | .bool _ | .int _ | .str _ => true
  | _ => false
theorem atom_flat {H : Hp} {x : V} {a : PyData} (h : Da K H x a) (e : atomD a = true) : flatV x = true := by
  cases h with
  | non => rfl
  | bl _ => rfl
  | int _ => rfl
  | str _ => rfl
  | lst _ _ => cases e
  | tup _ _ => cases e
theorem atom_eqv {H : Hp} {x y : V} {a b : PyData} (h : Da K H x a) (h' : Da K H y b) (e : atomD a = true) (e' : atomD b = true) : eqV x y = PyData.eqv a b := by
  cases h with
  | non => cases h' with
    | non => rfl
    | bl _ => rfl
    | int _ => rfl
    | str _ => rfl
    | lst _ _ => cases e'
    | tup _ _ => cases e'
  | bl _ => cases h' with
    | non => rfl
    | bl _ => rfl
    | int _ => rfl
    | str _ => rfl
    | lst _ _ => cases e'
    | tup _ _ => cases e'
  | int _ => cases h' with
    | non => rfl
    | bl _ => rfl
    | int _ => rfl
    | str _ => rfl
    | lst _ _ => cases e'
    | tup _ _ => cases e'
  | str _ => cases h' with
    | non => rfl
    | bl _ => rfl
    | int _ => rfl
    | str _ => rfl
    | lst _ _ => cases e'
    | tup _ _ => cases e'
  | lst _ _ => cases e
  | tup _ _ => cases e
theorem atoms_flat {H : Hp} : ∀ {vs : List V} {ds : List PyData}, DaAll K H vs ds → ds.all atomD = true → vs.all flatV = true
  | _, _, .nil, _ => rfl
  | _, _, .cons h t, e => by
    rw [List.all_cons, Bool.and_eq_true] at e ⊢
    exact ⟨atom_flat h e.1, atoms_flat t e.2⟩
theorem atoms_in {H : Hp} {x : V} {a : PyData} (h : Da K H x a) (e : atomD a = true) : ∀ {vs : List V} {ds : List PyData}, DaAll K H vs ds → ds.all atomD = true → inV x vs = ds.any fun z => PyData.eqv z a
  | _, _, .nil, _ => rfl
  | _, _, .cons h' t, e' => by
    rw [List.all_cons, Bool.and_eq_true] at e'
    have ih := atoms_in h e t e'.2
    unfold inV at ih ⊢
    rw [List.any_cons, List.any_cons, ih, atom_eqv h' h e'.1 e]
def inF (n : Bool) (a b : PyData) : Option PyData :=
  match seqD b with
  | some ds => if atomD a && ds.all atomD then some (.bool (n ^^ ds.any fun z => PyData.eqv z a)) else none
  | none => none
theorem ok_inF {n : Bool} : OpOk K (rIn K n) (inF n) := by
  intro S H x y a b d hS wa wb e Q q
  unfold inF at e
  cases h : seqD b with
  | none => rw [h] at e; cases e
  | some ds =>
    rw [h] at e
    simp only at e
    split at e
    · rename_i h2
      cases e
      rw [Bool.and_eq_true] at h2
      obtain ⟨p, vs, rfl, e2, e3⟩ := vw_seq wb h
      have e4 := DaAll.same (off_sub S H) ds e3
      refine ⟨p, vs, rfl, e2, atom_flat wa.da h2.1, atoms_flat e3 h2.2, q _ _ (same_refl _) ?_⟩
      rw [atoms_in wa.da h2.1 e4 h2.2]
      cases n
      · rw [Bool.false_xor]; exact .bl _
      · rw [Bool.true_xor]; exact .bl _
    · cases e
/-! items -/
theorem atI_da {H : Hp} {vs : List V} {ds : List PyData} (h : DaAll K H vs ds) {i : Int} {d : PyData} (e : atI ds i = some d) : ∃ x, atI vs i = some x ∧ Da K H x d := by
  unfold atI at e ⊢
  rw [daAll_len h]
  cases q : ixN ds.length i with
  | none => rw [q] at e; cases e
  | some j =>
    rw [q] at e
    exact daAll_get h e
def ixD (a b : PyData) : Option PyData :=
  match seqD a, b with
  | some ds, .int i => atI ds i
  | _, _ => none
theorem ok_ix : OpOk K (rIx K) ixD := by
  intro S H x y a b d hS wa wb e Q q
  unfold ixD at e
  split at e
  · rename_i ds i h
    rw [vw_int wb]
    cases a with
    | list es =>
      cases h
      obtain ⟨p, vs, rfl, e2, e3⟩ := vw_list wa
      obtain ⟨z, e4, e5⟩ := atI_da e3 e
      exact .inl ⟨p, vs, i, z, rfl, rfl, rd_sq e2, e4, q _ _ (same_refl _) e5⟩
    | tuple es =>
      cases h
      obtain ⟨p, vs, rfl, e2, e3⟩ := vw_tup wa
      obtain ⟨z, e4, e5⟩ := atI_da e3 e
      exact .inr (.inl ⟨p, vs, i, z, rfl, rfl, seqT (off_sub S H) e2, e4, q _ _ (same_refl _) e5⟩)
    | none => cases h
    | bool _ => cases h
    | int _ => cases h
    | str _ => cases h
    | dict _ => cases h
  · cases e
/-! slices -/
def cutL {α : Type} (xs : List α) (lo hi : Option Int) : List α := (xs.drop (HT.sIx xs.length 0 lo)).take (HT.sIx xs.length xs.length hi - HT.sIx xs.length 0 lo)
theorem cut_da {H : Hp} {vs : List V} {ds : List PyData} (h : DaAll K H vs ds) (lo hi : Option Int) : DaAll K H (cutV vs lo hi) (cutL ds lo hi) := by
  unfold cutV cutL
  rw [daAll_len h]
  exact daAll_take (daAll_drop h _) _
def cutD (a : PyData) (lo hi : Option Int) : Option PyData :=
  match a with
  | .list ds => some (.list (cutL ds lo hi))
  | .tuple ds => some (.tuple (cutL ds lo hi))
  | _ => none
theorem off_new {H H' : Hp} {S : Addr → Prop} (s : Same H H') : Same (off S H) (off S H') := off_mono (fun b z n => absurd z n) fun b o n h => s b o h
theorem hS_later {H H' : Hp} {S : Addr → Prop} (hS : ∀ q, S q → ∃ o, H q = some o ∧ NT o) (s : Same H H') : ∀ q, S q → ∃ o, H' q = some o ∧ NT o := fun q z => by
  obtain ⟨o, e, n⟩ := hS q z
  exact ⟨o, s _ _ e, n⟩
theorem ok_cut {S : Addr → Prop} {H : Hp} {x : V} {a d : PyData} {lo hi : Option Int} (hS : ∀ q, S q → ∃ o, H q = some o ∧ NT o) (wa : Vw K S H x a) (e : cutD a lo hi = some d) {Q : VK} (q : ∀ v H', Same H H' → Da K (off S H') v d → Q v H') : rCut K x lo hi H Q := by
  cases a with
  | list ds =>
    cases e
    obtain ⟨p, vs, rfl, e2, e3⟩ := vw_list wa
    refine ⟨p, vs, rfl, .inl ⟨rd_sq e2, fun b H' s n h => q _ _ s ?_⟩⟩
    exact .lst (SqL.of ((off_ne fun z => by obtain ⟨o, e, _⟩ := hS b z; rw [n] at e; cases e).trans h)) (DaAll.same (off_new s) _ (cut_da e3 lo hi))
  | tuple ds =>
    cases e
    obtain ⟨p, vs, rfl, e2, e3⟩ := vw_tup wa
    refine ⟨p, vs, rfl, .inr ⟨seqT (off_sub S H) e2, fun b H' s h => q _ _ s ?_⟩⟩
    exact .tup (off_T' (hS_later hS s) h) (DaAll.same (off_new s) _ (cut_da e3 lo hi))
  | none => cases e
  | bool _ => cases e
  | int _ => cases e
  | str _ => cases e
  | dict _ => cases e
end
def PostO (K : PySem.W.Frag) (E : XK) (B : Addr → Prop) (σ : St) (H : Hp) (l : List Addr) (rs : Rs (Option Int)) (Q : Option Int → Hp → Prop) : Prop :=
  match rs with
  | .ok b env' => ∀ H', Rep K B σ H' env' l → Fr l H H' → Q b H'
  | .ex C f d => Exn K E B H l C f d
structure OkP (K : PySem.W.Frag) (E : XK) (t : TO) (f : M (Option Int)) : Prop where
  run : ∀ {B : Addr → Prop} {σ : St} {H : Hp} {env : En} {l : List Addr} {rs : Rs (Option Int)}, Rep K B σ H env l → f env = some rs → ∀ {Q : Option Int → Hp → Prop}, PostO K E B σ H l rs Q → t σ H Q
section
variable {K : PySem.W.Frag} {E : XK}
theorem OkP.seq {α : Type} {ta : TO} {fa : M (Option Int)} {g : Option Int → M α} (oa : OkP K E ta fa) {B : Addr → Prop} {σ : St} {H : Hp} {env : En} {l : List Addr} {rs : Rs α} (r : Rep K B σ H env l) (h : (M.bind fa g) env = some rs) {Q : Option Int → Hp → Prop}
    (hx : ∀ C f d, rs = .ex C f d → Exn K E B H l C f d) (hq : ∀ a e H', g a e = some rs → Rep K B σ H' e l → Fr l H H' → Q a H') : ta σ H Q := by
  rcases bind_some h with ⟨a, e, h1, h2⟩ | ⟨C, f, d, h1, h2⟩
  · exact oa.run r h1 (fun H' r' fr => hq a e H' h2 r' fr)
  · exact oa.run r h1 (hx C f d h2)
def poN : M (Option Int) := M.pure none
def asI : R → Option Int
  | .dat (.int i) => some i
  | _ => none
theorem asI_some {a : R} {i : Int} (h : asI a = some i) : a = .dat (.int i) := by
  unfold asI at h
  split at h
  · cases h; rfl
  · cases h
def poS (fa : M R) : M (Option Int) := M.bind fa fun a => M.bind (lift (asI a)) fun i => M.pure (some i)
theorem OkP.none : OkP K E tNoPart poN := by
  refine ⟨?_⟩
  intro B σ H env l rs rp h Q post
  cases h
  exact post H rp (Fr.refl _ _)
theorem OkP.some {t : TE} {fa : M R} (oa : OkE K E t fa) : OkP K E (tPart t) (poS fa) := by
  refine ⟨?_⟩
  intro B σ H env l rs rp h Q post
  refine oa.seq rp h (fun C f d e => by subst e; exact post) fun a e v1 H1 h1 r1 f1 q1 => ?_
  obtain ⟨i, h2, h3⟩ := lift_step h1
  cases h3
  rw [asI_some h2] at q1
  cases q1
  exact ⟨_, rfl, post H1 r1 f1⟩
def slD (fa : M R) (fl fh : M (Option Int)) : M R := M.bind fa fun a => M.bind fl fun lo => M.bind fh fun hi => M.bind (vw a) fun x => M.bind (lift (cutD x lo hi)) fun d => M.pure (.dat d)
theorem OkE.sl {t : TE} {tl th : TO} {fa : M R} {fl fh : M (Option Int)} (oa : OkE K E t fa) (ol : OkP K E tl fl) (oh : OkP K E th fh) : OkE K E (tSl (rCut K) t tl th) (slD fa fl fh) := by
  refine ⟨?_⟩
  intro B σ H env l rs rp h Q post
  refine oa.seq rp h post.exn fun a e v1 H1 h1 r1 f1 q1 => ?_
  refine ol.seq r1 h1 (exn_later post.exn f1) fun lo e2 H2 h2 r2 f2 => ?_
  refine oh.seq r2 h2 (exn_later post.exn (f1.trans f2)) fun hi e3 H3 h3 r3 f3 => ?_
  obtain ⟨x, h4, w1⟩ := vw_step r3 (q1.mv (f2.trans f3).keep) h3
  obtain ⟨d, h5, h6⟩ := lift_step h4
  cases h6
  exact ok_cut r3.tl w1 h5 fun v H' s q => post v H' (r3.same s) (((f1.trans f2).trans f3).trans (Fr.of s)) q
end
/-! built-in calls -/
section
variable {X : Cx}
/-- xs + ys of lists that stand -/
def rCatL (K : PySem.W.Frag) : R2 := fun x y H Q => ∃ l b xs zs, x = .ref l ∧ y = .ref b ∧ SqL K H l xs ∧ SqL K H b zs ∧ xs.length + zs.length ≤ sizeLine ∧ ∀ p, H p = none → Q (.ref p) (upd H p (.lst (xs ++ zs)))
theorem op_catL : OpR X (binaryOp .Add) (rCatL X.K) := by
  intro pins s σ H x y v u Q I rx ry h
  obtain ⟨l, b, xs, zs, rfl, rfl, hH, hB, hz, q⟩ := h
  cases rx
  cases ry
  obtain ⟨its, r, e, z⟩ := I.list hH
  obtain ⟨its2, r2, e2, z2⟩ := I.list hB
  have hl := r.length
  have hl2 := r2.length
  obtain ⟨⟨cls, dd, data, sl⟩, ho, hc, n, hd⟩ := e.isList
  obtain ⟨⟨cls2, dd2, data2, sl2⟩, ho2, hc2, n2, hd2⟩ := e2.isList
  simp only at hc hd hc2 hd2
  subst hc hd hc2 hd2
  have ea : its.toArray ++ its2.toArray = (its ++ its2).toArray := by simp
  refine concat_meets ⟨_, ho, rfl⟩ ⟨_, ho2, rfl⟩ noFill_list_add seq_list_add PySem.F.slot_list_add PySem.F.entry_list_add (PySem.F.args_list_add_2 _ _) (PyProof.Rows.list_addW l b its.toArray its2.toArray n n2 dd dd2 sl sl2 (by rw [List.size_toArray, List.size_toArray]; omega)) ⟨ho, ho2, ?_⟩
  rw [ea]
  exact ⟨.ref _, _, I.lnew (t' := s.toks) (r.append r2) (by rw [List.length_append]; omega), rfl, q _ I.fresh⟩
end
section
variable {K : PySem.W.Frag}
def catD (a b : PyData) : Option PyData :=
  match a, b with
  | .list xs, .list ys => (sz (xs.length + ys.length)).map fun _ => .list (xs ++ ys)
  | _, _ => none
theorem ok_catL : OpOk K (rCatL K) catD := by
  intro S H x y a b d hS wa wb e Q q
  unfold catD at e
  split at e
  · obtain ⟨u, e1, e2⟩ := Option.map_eq_some_iff.mp e
    subst e2
    obtain ⟨p, vs, rfl, h2, h3⟩ := vw_list wa
    obtain ⟨p', vs', rfl, h2', h3'⟩ := vw_list wb
    refine ⟨p, p', vs, vs', rfl, rfl, h2, h2', by rw [daAll_len h3, daAll_len h3']; exact sz_ok e1, fun r hr => ?_⟩
    exact q _ _ (same_new hr _) (new_dp hS hr (daAll_append h3 h3')).1
  · cases e
def catT (a b : PyData) : Option PyData :=
  match a, b with
  | .tuple xs, .tuple ys => (sz (xs.length + ys.length)).map fun _ => .tuple (xs ++ ys)
  | _, _ => none
theorem ok_catT : OpOk K (rCatW K) catT := by
  intro S H x y a b d hS wa wb e Q q
  unfold catT at e
  split at e
  · obtain ⟨u, e1, e2⟩ := Option.map_eq_some_iff.mp e
    subst e2
    obtain ⟨p, vs, rfl, h2, h3⟩ := vw_tup wa
    obtain ⟨p', vs', rfl, h2', h3'⟩ := vw_tup wb
    refine ⟨p, p', vs, vs', rfl, rfl, seqT (off_sub S H) h2, seqT (off_sub S H) h2', by rw [daAll_len h3, daAll_len h3']; exact sz_ok e1, fun r H' s hr => ?_⟩
    exact q _ _ s (.tup (off_T' (hS_later hS s) hr) (DaAll.same (off_new s) _ (daAll_append h3 h3')))
  · cases e
def lenD (as : List PyData) : Option PyData :=
  match as with
  | [a] => (seqD a).map fun ds => .int ds.length
  | _ => none
theorem vwAll1 {S : Addr → Prop} {H : Hp} {xs : List V} {a : PyData} (h : VwAll K S H xs [a]) : ∃ x, xs = [x] ∧ Vw K S H x a := by
  cases h with | cons h t => cases t; exact ⟨_, rfl, h⟩
theorem vwAll2 {S : Addr → Prop} {H : Hp} {xs : List V} {a b : PyData} (h : VwAll K S H xs [a, b]) : ∃ x y, xs = [x, y] ∧ Vw K S H x a ∧ Vw K S H y b := by
  cases h with | cons h t => cases t with | cons h' t => cases t; exact ⟨_, _, rfl, h, h'⟩
theorem ok_len : CbOk K (fun xs H Q => ∃ p ys, xs = [.ref p] ∧ (SqL K H p ys ∨ SqT K H p ys) ∧ Q (.int ys.length) H) lenD := by
  intro S H xs as d hS w e Q q
  unfold lenD at e
  split at e
  · obtain ⟨ds, e1, e2⟩ := Option.map_eq_some_iff.mp e
    subst e2
    obtain ⟨x, rfl, wx⟩ := vwAll1 w
    obtain ⟨p, vs, rfl, h2, h3⟩ := vw_seq wx e1
    exact ⟨p, vs, rfl, h2, q _ _ (same_refl _) (by rw [daAll_len h3]; exact .int _)⟩
  · cases e
def tupleD (as : List PyData) : Option PyData :=
  match as with
  | [a] => (seqD a).map fun ds => .tuple ds
  | _ => none
theorem ok_tuple : CbOk K (rTupW K) tupleD := by
  intro S H xs as d hS w e Q q
  unfold tupleD at e
  split at e
  · obtain ⟨ds, e1, e2⟩ := Option.map_eq_some_iff.mp e
    subst e2
    obtain ⟨x, rfl, wx⟩ := vwAll1 w
    obtain ⟨p, vs, rfl, h2, h3⟩ := vw_seq wx e1
    exact ⟨p, vs, rfl, h2, fun r H' s hr => q _ _ s (.tup (off_T' (hS_later hS s) hr) (DaAll.same (off_new s) _ h3))⟩
  · cases e
def listD (as : List PyData) : Option PyData :=
  match as with
  | [a] => (seqD a).map fun ds => .list ds
  | _ => none
theorem ok_list : CbOk K (fun xs H Q => ∃ p ys, xs = [.ref p] ∧ (SqL K H p ys ∨ SqT K H p ys) ∧ ∀ l, H l = none → Q (.ref l) (upd H l (.lst ys))) listD := by
  intro S H xs as d hS w e Q q
  unfold listD at e
  split at e
  · obtain ⟨ds, e1, e2⟩ := Option.map_eq_some_iff.mp e
    subst e2
    obtain ⟨x, rfl, wx⟩ := vwAll1 w
    obtain ⟨p, vs, rfl, h2, h3⟩ := vw_seq wx e1
    exact ⟨p, vs, rfl, h2, fun r hr => q _ _ (same_new hr _) (new_dp hS hr h3).1⟩
  · cases e
def absD (as : List PyData) : Option PyData :=
  match as with
  | [.int i] => some (.int (if i < 0 then -i else i))
  | _ => none
theorem ok_abs : CbOk K (fun xs H Q => ∃ i, xs = [.int i] ∧ Q (.int (if i < 0 then -i else i)) H) absD := by
  intro S H xs as d hS w e Q q
  unfold absD at e
  split at e
  · cases e
    obtain ⟨x, rfl, wx⟩ := vwAll1 w
    exact ⟨_, by rw [vw_int wx], q _ _ (same_refl _) (.int _)⟩
  · cases e
def minD (as : List PyData) : Option PyData :=
  match as with
  | [.int i, .int j] => some (.int (if j < i then j else i))
  | _ => none
theorem ok_min : CbOk K (fun xs H Q => ∃ i j, xs = [.int i, .int j] ∧ Q (.int (if j < i then j else i)) H) minD := by
  intro S H xs as d hS w e Q q
  unfold minD at e
  split at e
  · cases e
    obtain ⟨x, y, rfl, wx, wy⟩ := vwAll2 w
    exact ⟨_, _, by rw [vw_int wx, vw_int wy], q _ _ (same_refl _) (.int _)⟩
  · cases e
def maxD (as : List PyData) : Option PyData :=
  match as with
  | [.int i, .int j] => some (.int (if j > i then j else i))
  | _ => none
theorem ok_max : CbOk K (fun xs H Q => ∃ i j, xs = [.int i, .int j] ∧ Q (.int (if j > i then j else i)) H) maxD := by
  intro S H xs as d hS w e Q q
  unfold maxD at e
  split at e
  · cases e
    obtain ⟨x, y, rfl, wx, wy⟩ := vwAll2 w
    exact ⟨_, _, by rw [vw_int wx, vw_int wy], q _ _ (same_refl _) (.int _)⟩
  · cases e
def intD (as : List PyData) : Option PyData :=
  match as with
  | [.int i] => some (.int i)
  | [.bool k] => some (.int (if k then 1 else 0))
  | _ => none
theorem ok_int : CbOk K (fun xs H Q => (∃ i, xs = [.int i] ∧ Q (.int i) H) ∨ ∃ k, xs = [.bl k] ∧ Q (.int (if k then 1 else 0)) H) intD := by
  intro S H xs as d hS w e Q q
  unfold intD at e
  split at e
  · cases e
    obtain ⟨x, rfl, wx⟩ := vwAll1 w
    exact .inl ⟨_, by rw [vw_int wx], q _ _ (same_refl _) (.int _)⟩
  · cases e
    obtain ⟨x, rfl, wx⟩ := vwAll1 w
    exact .inr ⟨_, by rw [vw_bool wx], q _ _ (same_refl _) (.int _)⟩
  · cases e
/-- a list of truth values -/
def boolsD : List PyData → Option (List Bool)
  | [] => some []
  | .bool b :: r => (boolsD r).map (b :: ·)
  | _ :: _ => none
theorem bools_da {H : Hp} : ∀ {vs : List V} {ds : List PyData} {bs : List Bool}, DaAll K H vs ds → boolsD ds = some bs → vs = bs.map V.bl
  | _, _, bs, .nil, e => by cases e; rfl
  | _, _, bs, .cons (d := .bool b) h t, e => by
    obtain ⟨q, e1, e2⟩ := Option.map_eq_some_iff.mp (show (boolsD _).map (b :: ·) = some bs from e)
    subst e2
    cases h
    rw [bools_da t e1]
    rfl
  | _, _, bs, .cons (d := .int b) h t, e => by cases e
  | _, _, bs, .cons (d := .none) h t, e => by cases e
  | _, _, bs, .cons (d := .str b) h t, e => by cases e
  | _, _, bs, .cons (d := .list b) h t, e => by cases e
  | _, _, bs, .cons (d := .tuple b) h t, e => by cases e
  | _, _, bs, .cons (d := .dict b) h t, e => by cases e
def intsD : List PyData → Option (List Int)
  | [] => some []
  | .int b :: r => (intsD r).map (b :: ·)
  | _ :: _ => none
theorem ints_da {H : Hp} : ∀ {vs : List V} {ds : List PyData} {bs : List Int}, DaAll K H vs ds → intsD ds = some bs → vs = bs.map V.int
  | _, _, bs, .nil, e => by cases e; rfl
  | _, _, bs, .cons (d := .int b) h t, e => by
    obtain ⟨q, e1, e2⟩ := Option.map_eq_some_iff.mp (show (intsD _).map (b :: ·) = some bs from e)
    subst e2
    cases h
    rw [ints_da t e1]
    rfl
  | _, _, bs, .cons (d := .bool b) h t, e => by cases e
  | _, _, bs, .cons (d := .none) h t, e => by cases e
  | _, _, bs, .cons (d := .str b) h t, e => by cases e
  | _, _, bs, .cons (d := .list b) h t, e => by cases e
  | _, _, bs, .cons (d := .tuple b) h t, e => by cases e
  | _, _, bs, .cons (d := .dict b) h t, e => by cases e
theorem intsD_map (ns : List Int) : intsD (ns.map PyData.int) = some ns := by
  induction ns with
  | nil => rfl
  | cons n r ih => show (intsD (r.map PyData.int)).map (n :: ·) = _; rw [ih]; rfl
theorem boolsD_map (ns : List Bool) : boolsD (ns.map PyData.bool) = some ns := by
  induction ns with
  | nil => rfl
  | cons n r ih => show (boolsD (r.map PyData.bool)).map (n :: ·) = _; rw [ih]; rfl
theorem da_ints {H : Hp} : ∀ ns : List Int, DaAll K H (ns.map V.int) (ns.map PyData.int)
  | [] => .nil
  | n :: r => .cons (.int n) (da_ints r)
def allD (as : List PyData) : Option PyData :=
  match as with
  | [.list ds] => (boolsD ds).map fun bs => .bool (bs.all id)
  | _ => none
theorem ok_all : CbOk K (rAll K) allD := by
  intro S H xs as d hS w e Q q
  unfold allD at e
  split at e
  · obtain ⟨bs, e1, e2⟩ := Option.map_eq_some_iff.mp e
    subst e2
    obtain ⟨x, rfl, wx⟩ := vwAll1 w
    obtain ⟨p, vs, rfl, h2, h3⟩ := vw_list wx
    rw [bools_da h3 e1] at h2
    exact ⟨p, bs, rfl, rd_sq h2, q _ _ (same_refl _) (.bl _)⟩
  · cases e
def anyD (as : List PyData) : Option PyData :=
  match as with
  | [.list ds] => (boolsD ds).map fun bs => .bool (bs.any id)
  | _ => none
theorem ok_any : CbOk K (rAny K) anyD := by
  intro S H xs as d hS w e Q q
  unfold anyD at e
  split at e
  · obtain ⟨bs, e1, e2⟩ := Option.map_eq_some_iff.mp e
    subst e2
    obtain ⟨x, rfl, wx⟩ := vwAll1 w
    obtain ⟨p, vs, rfl, h2, h3⟩ := vw_list wx
    rw [bools_da h3 e1] at h2
    exact ⟨p, bs, rfl, rd_sq h2, q _ _ (same_refl _) (.bl _)⟩
  · cases e
def sumD (as : List PyData) : Option PyData :=
  match as with
  | [.list ds] => (intsD ds).map fun bs => .int bs.sum
  | _ => none
theorem ok_sum : CbOk K (rSum K) sumD := by
  intro S H xs as d hS w e Q q
  unfold sumD at e
  split at e
  · obtain ⟨bs, e1, e2⟩ := Option.map_eq_some_iff.mp e
    subst e2
    obtain ⟨x, rfl, wx⟩ := vwAll1 w
    obtain ⟨p, vs, rfl, h2, h3⟩ := vw_list wx
    rw [ints_da h3 e1] at h2
    exact ⟨p, bs, rfl, rd_sq h2, q _ _ (same_refl _) (.int _)⟩
  · cases e
/-- numbers in order -/
def sortI (ns : List Int) : List Int := ns.mergeSort (fun a b => decide (a ≤ b))
theorem sort_uniq {a b : List Int} (p : a.Perm b) (ha : a.Pairwise (· ≤ ·)) (hb : b.Pairwise (· ≤ ·)) : a = b := p.eq_of_pairwise (fun x y _ _ h1 h2 => Int.le_antisymm h1 h2) ha hb
theorem sortI_perm (ns : List Int) : (sortI ns).Perm ns := List.mergeSort_perm ..
theorem sortI_pw (ns : List Int) : (sortI ns).Pairwise (· ≤ ·) := by
  have h := List.pairwise_mergeSort (le := fun a b : Int => decide (a ≤ b)) (fun a b c h1 h2 => decide_eq_true (Int.le_trans (of_decide_eq_true h1) (of_decide_eq_true h2))) (fun a b => by
    rw [Bool.or_eq_true]
    exact (Int.le_total a b).imp decide_eq_true decide_eq_true) ns
  exact h.imp fun z => of_decide_eq_true z
def sortD (as : List PyData) : Option PyData :=
  match as with
  | [a] => (seqD a).bind fun ds => (intsD ds).map fun ns => .list ((sortI ns).map .int)
  | _ => none
theorem ok_sort : CbOk K (rSrtW K) sortD := by
  intro S H xs as d hS w e Q q
  unfold sortD at e
  split at e
  · obtain ⟨ds, e1, e2⟩ := Option.bind_eq_some_iff.mp e
    obtain ⟨ns, e3, e4⟩ := Option.map_eq_some_iff.mp e2
    subst e4
    obtain ⟨x, rfl, wx⟩ := vwAll1 w
    obtain ⟨p, vs, rfl, h2, h3⟩ := vw_seq wx e1
    rw [ints_da h3 e3] at h2
    refine ⟨p, ns, rfl, h2, fun ns' r H' pm pw n s hr => q _ _ s ?_⟩
    have : ns' = sortI ns := sort_uniq (pm.trans (sortI_perm ns).symm) pw (sortI_pw ns)
    subst this
    exact .lst (SqL.of ((off_ne fun z => by obtain ⟨o, e, _⟩ := hS r z; rw [n] at e; cases e).trans hr)) (da_ints _)
  · cases e
end
end Ov

set_option Elab.async false
set_option linter.all false
set_option maxRecDepth 100000
set_option maxHeartbeats 4000000
namespace Ov
open PySem L2
/-! values that may be owned, statements -/
structure Fr2 (l : List Addr) (H : Hp) (l' : List Addr) (H' : Hp) : Prop where
  fr : Fr l H H'
  sub : ∀ b ∈ l', b ∈ l ∨ H b = none
theorem Fr2.refl (l : List Addr) (H : Hp) : Fr2 l H l H := ⟨Fr.refl _ _, fun _ z => .inl z⟩
theorem Fr2.of {l : List Addr} {H H' : Hp} (f : Fr l H H') : Fr2 l H l H' := ⟨f, fun _ z => .inl z⟩
theorem Fr2.trans {l l1 l2 : List Addr} {H H1 H2 : Hp} (a : Fr2 l H l1 H1) (b : Fr2 l1 H1 l2 H2) : Fr2 l H l2 H2 := by
  refine ⟨fun c o n h => b.fr c o (fun z => ?_) (a.fr c o n h), fun c z => ?_⟩
  · rcases a.sub c z with z | z
    · exact n z
    · rw [h] at z; cases z
  · rcases b.sub c z with z | z
    · exact a.sub c z
    · by_cases m : c ∈ l
      · exact .inl m
      · cases q : H c with
        | none => exact .inr rfl
        | some o => rw [a.fr c o m q] at z; cases z
section
variable {K : PySem.W.Frag} {E : XK}
theorem Exn.later2 {B : Addr → Prop} {H H1 : Hp} {l l1 : List Addr} {C : Addr} {f : Str} {d : PyData} (x : Exn K E B H l C f d) (s : Fr2 l H l1 H1) : Exn K E B H1 l1 C f d :=
  fun dx H' v fr n h q => x dx H' v (s.trans (Fr2.of fr)).fr n h q
def PostW (K : PySem.W.Frag) (E : XK) (B : Addr → Prop) (σ : St) (H : Hp) (l : List Addr) (rs : Rs Wv) (Q : VK) : Prop :=
  match rs with
  | .ok w env' => ∀ v H' lw, Rep K (un B lw) σ H' env' l → Fr l H H' → RpW K H' (off (un (un B lw) l) H') v w lw → lw.Nodup → (∀ b ∈ lw, H b = none) → Q v H'
  | .ex C f d => Exn K E B H l C f d
structure OkW (K : PySem.W.Frag) (E : XK) (t : TE) (f : M Wv) : Prop where
  run : ∀ {B : Addr → Prop} {σ : St} {H : Hp} {env : En} {l : List Addr} {rs : Rs Wv}, Rep K B σ H env l → f env = some rs → ∀ {Q : VK}, PostW K E B σ H l rs Q → t σ H Q
theorem PostW.exn {B : Addr → Prop} {σ : St} {H : Hp} {l : List Addr} {rs : Rs Wv} {Q : VK} (h : PostW K E B σ H l rs Q) : ∀ C f d, rs = .ex C f d → Exn K E B H l C f d := fun C f d e => by subst e; exact h
theorem OkW.seq {α : Type} {ta : TE} {fa : M Wv} {g : Wv → M α} (oa : OkW K E ta fa) {B : Addr → Prop} {σ : St} {H : Hp} {env : En} {l : List Addr} {rs : Rs α} (r : Rep K B σ H env l) (h : (M.bind fa g) env = some rs) {Q : VK}
    (hx : ∀ C f d, rs = .ex C f d → Exn K E B H l C f d) (hq : ∀ a e v H' lw, g a e = some rs → Rep K (un B lw) σ H' e l → Fr l H H' → RpW K H' (off (un (un B lw) l) H') v a lw → lw.Nodup → (∀ b ∈ lw, H b = none) → Q v H') : ta σ H Q := by
  rcases bind_some h with ⟨a, e, h1, h2⟩ | ⟨C, f, d, h1, h2⟩
  · exact oa.run r h1 (fun v H' lw r' fr q n1 n2 => hq a e v H' lw h2 r' fr q n1 n2)
  · exact oa.run r h1 (hx C f d h2)
theorem un_nil (B : Addr → Prop) : un B [] = B := by
  funext b
  exact propext ⟨fun z => z.elim id (fun z => by cases z), .inl⟩
theorem un_app (B : Addr → Prop) (a b : List Addr) : un (un B a) b = un B (a ++ b) := by
  funext c
  exact propext ⟨fun z => z.elim (fun z => z.imp id (List.mem_append_left _)) fun z => .inr (List.mem_append_right _ z), fun z => z.elim (fun z => .inl (.inl z)) fun z => (List.mem_append.mp z).elim (fun z => .inl (.inr z)) .inr⟩
def toW : R → Option Wv
  | .dat d => some (.dat d)
  | .exc C f d => some (.exc C f d)
  | .slot _ => none
/-- a value that is no list of one's own -/
def pl (f : M R) : M Wv := M.bind f fun r => lift (toW r)
theorem OkE.w {t : TE} {f : M R} (o : OkE K E t f) : OkW K E t (pl f) := by
  refine ⟨?_⟩
  intro B σ H env l rs rp h Q post
  refine o.seq rp h post.exn fun a e v H' h1 r1 f1 q1 => ?_
  obtain ⟨w, h2, h3⟩ := lift_some h1
  subst h3
  refine post v H' [] (by rw [un_nil]; exact r1) f1 ?_ List.nodup_nil (fun _ z => by cases z)
  rw [un_nil]
  cases a with
  | dat d => cases h2; exact ⟨rfl, q1⟩
  | slot i => cases h2
  | exc C f d => cases h2; exact ⟨rfl, q1⟩
/-- a list of one's own as data from here on -/
def itD : It1 → PyData
  | .dat d => d
  | .own ds => .list ds
def ofW : Wv → Option R
  | .dat d => some (.dat d)
  | .own xs => some (.dat (.list (xs.map itD)))
  | .exc C f d => some (.exc C f d)
  | .dct _ => none
theorem rp1_free {H G G' : Hp} {v : V} {x : It1} {l : List Addr} (s : Same G G') (k : ∀ b ∈ l, ∀ us, H b = some (.lst us) → G' b = some (.lst us)) (h : Rp1 K H G v x l) : Da K G' v (itD x) := by
  cases x with
  | dat d => exact Da.same s d h.2
  | own ds =>
    obtain ⟨q, us, rfl, rfl, e3, e4⟩ := h
    exact .lst (SqL.of (k q (List.mem_cons_self ..) us e3)) (DaAll.same s ds e4)
theorem rp1s_free {H G G' : Hp} (s : Same G G') : ∀ {vs : List V} {xs : List It1} {l : List Addr}, (∀ b ∈ l, ∀ us, H b = some (.lst us) → G' b = some (.lst us)) → Rp1s K H G vs xs l → DaAll K G' vs (xs.map itD)
  | [], [], l, _, h => .nil
  | v :: vs, x :: xs, l, k, ⟨a, b, e, h1, h2⟩ => .cons (rp1_free s (fun c z => k c (by rw [e]; exact List.mem_append_left _ z)) h1) (rp1s_free s (fun c z => k c (by rw [e]; exact List.mem_append_right _ z)) h2)
  | [], _ :: _, _, _, h => h.elim
  | _ :: _, [], _, _, h => h.elim
theorem rpW_free {H G G' : Hp} {σ : St} {v : V} {w : Wv} {r : R} {l : List Addr} (hr : ofW w = some r) (s : Same G G') (k : ∀ b ∈ l, ∀ us, H b = some (.lst us) → G' b = some (.lst us)) (h : RpW K H G v w l) : RpR K G' σ v r := by
  cases w with
  | dct ks => cases hr
  | dat d => cases hr; exact Da.same s d h.2
  | own xs =>
    cases hr
    obtain ⟨p, vs, b, rfl, rfl, e3, e4⟩ := h
    exact .lst (SqL.of (k p (List.mem_cons_self ..) vs e3)) (rp1s_free s (fun c z => k c (List.mem_cons_of_mem _ z)) e4)
  | exc C f d =>
    cases hr
    obtain ⟨_, a, u, e1, e2, e3⟩ := h
    exact ⟨a, u, e1, e2.same s, Da.same s d e3⟩
def fz (f : M Wv) : M R := M.bind f fun w => lift (ofW w)
theorem OkW.e {t : TE} {f : M Wv} (o : OkW K E t f) : OkE K E t (fz f) := by
  refine ⟨?_⟩
  intro B σ H env l rs rp h Q post
  refine o.seq rp h post.exn fun a e v H' lw h1 r1 f1 q1 nd fr => ?_
  obtain ⟨r, h2, h3⟩ := lift_some h1
  subst h3
  refine post v H' (r1.less fun _ z => .inl z) f1 (rpW_free h2 (off_mono (fun b z n => absurd (z.elim (fun z => .inl (.inl z)) .inr) n) fun b o n e => e) (fun b z us e => ?_) q1)
  refine (off_ne fun y => ?_).trans e
  exact rp.fresh (fr b z) y
inductive Fl where
  | nx | bk | ct
  | rt (w : Wv)
def PostS (K : PySem.W.Frag) (E : XK) (bx : Bool) (B : Addr → Prop) (σ : St) (H : Hp) (l : List Addr) (rs : Rs Fl) (D : Ends) : Prop :=
  match rs with
  | .ok .nx env' => ∀ σ' H' l', Rep K B σ' H' env' l' → Fr2 l H l' H' → (bx = true → σ'[0]? = σ[0]?) → D.nx σ' H'
  | .ok .bk env' => ∀ σ' H' l', Rep K B σ' H' env' l' → Fr2 l H l' H' → (bx = true → σ'[0]? = σ[0]?) → D.bk σ' H'
  | .ok .ct env' => ∀ σ' H' l', Rep K B σ' H' env' l' → Fr2 l H l' H' → (bx = true → σ'[0]? = σ[0]?) → D.ct σ' H'
  | .ok (.rt w) env' => ∀ v σ' H' l' lw, Rep K (un B lw) σ' H' env' l' → Fr2 l H (l' ++ lw) H' → (bx = true → σ'[0]? = σ[0]?) → RpW K H' (off (un (un B lw) l') H') v w lw → lw.Nodup → (∀ b ∈ lw, b ∉ l' ∧ ¬ B b) → D.rt v H'
  | .ex C f d => Exn K E B H l C f d
structure OkS (K : PySem.W.Frag) (E : XK) (bx : Bool) (t : TS) (f : M Fl) : Prop where
  run : ∀ {B : Addr → Prop} {σ : St} {H : Hp} {env : En} {l : List Addr} {rs : Rs Fl}, Rep K B σ H env l → f env = some rs → ∀ {D : Ends}, PostS K E bx B σ H l rs D → t D σ H
variable {bx : Bool}
theorem PostS.exn {B : Addr → Prop} {σ : St} {H : Hp} {l : List Addr} {rs : Rs Fl} {D : Ends} (h : PostS K E bx B σ H l rs D) : ∀ C f d, rs = .ex C f d → Exn K E B H l C f d := fun C f d e => by subst e; exact h
theorem PostS.later {B : Addr → Prop} {σ σ1 : St} {H H1 : Hp} {l l1 : List Addr} {rs : Rs Fl} {D : Ends} (h : PostS K E bx B σ H l rs D) (s : Fr2 l H l1 H1) (e0 : bx = true → σ1[0]? = σ[0]?) : PostS K E bx B σ1 H1 l1 rs D := by
  cases rs with
  | ex C f d => exact Exn.later2 h s
  | ok fl env =>
    cases fl with
    | nx => exact fun σ' H' l' r f b => h σ' H' l' r (s.trans f) fun z => (b z).trans (e0 z)
    | bk => exact fun σ' H' l' r f b => h σ' H' l' r (s.trans f) fun z => (b z).trans (e0 z)
    | ct => exact fun σ' H' l' r f b => h σ' H' l' r (s.trans f) fun z => (b z).trans (e0 z)
    | rt w => exact fun v σ' H' l' lw r f b => h v σ' H' l' lw r (s.trans f) fun z => (b z).trans (e0 z)
def nxt : M Fl := M.pure .nx
theorem OkS.nil : OkS K E bx tNext nxt := by
  refine ⟨?_⟩
  intro B σ H env l rs rp h D post
  cases h
  exact post σ H l rp (Fr2.refl _ _) fun _ => rfl
def thenS (f g : M Fl) : M Fl := M.bind f fun fl => match fl with
  | .nx => g
  | o => M.pure o
theorem OkS.cut {t u : TS} {f g : M Fl} (o : OkS K E bx t f) (o' : OkS K E bx u g) : OkS K E bx (Evl.tCut t u) (thenS f g) := by
  refine ⟨?_⟩
  intro B σ H env l rs rp h D post
  rcases bind_some h with ⟨fl, e, h1, h2⟩ | ⟨C, g', d, h1, h2⟩
  · cases fl with
    | nx => exact ⟨fun σ' H' => ∃ l', Rep K B σ' H' e l' ∧ Fr2 l H l' H' ∧ (bx = true → σ'[0]? = σ[0]?), o.run rp h1 (fun σ' H' l' r f b => ⟨l', r, f, b⟩), fun σ' H' ⟨l', r, f, b⟩ => o'.run r h2 (post.later f b)⟩
    | bk => cases h2; exact ⟨fun _ _ => False, o.run rp h1 post, fun _ _ z => z.elim⟩
    | ct => cases h2; exact ⟨fun _ _ => False, o.run rp h1 post, fun _ _ z => z.elim⟩
    | rt w => cases h2; exact ⟨fun _ _ => False, o.run rp h1 post, fun _ _ z => z.elim⟩
  · subst h2; exact ⟨fun _ _ => False, o.run rp h1 post, fun _ _ z => z.elim⟩
def exprS (f : M R) : M Fl := M.bind f fun _ => M.pure .nx
theorem OkS.expr {t : TE} {f : M R} (o : OkE K E t f) : OkS K E bx (tDrop t) (exprS f) := by
  refine ⟨?_⟩
  intro B σ H env l rs rp h D post
  refine o.seq rp h post.exn fun a e v H' h1 r1 f1 q1 => ?_
  cases h1
  exact post σ H' l r1 (Fr2.of f1) fun _ => rfl
def retS (f : M Wv) : M Fl := M.bind f fun w => M.pure (.rt w)
theorem OkS.ret {t : TE} {f : M Wv} (o : OkW K E t f) : OkS K E bx (tRet t) (retS f) := by
  refine ⟨?_⟩
  intro B σ H env l rs rp h D post
  refine o.seq rp h post.exn fun a e v H' lw h1 r1 f1 q1 nd fr => ?_
  cases h1
  exact post v σ H' l lw r1 ⟨f1, fun b z => (List.mem_append.mp z).imp id (fr b)⟩ (fun _ => rfl) q1 nd fun b z => ⟨fun y => rp.fresh (fr b z) (.inr y), fun y => rp.fresh (fr b z) (.inl y)⟩
def retN : M Fl := M.pure (.rt (.dat .none))
theorem OkS.retN : OkS K E bx tRetN Ov.retN := by
  refine ⟨?_⟩
  intro B σ H env l rs rp h D post
  cases h
  exact post .non σ H l [] (by rw [un_nil]; exact rp) (by rw [List.append_nil]; exact Fr2.refl _ _) (fun _ => rfl) ⟨rfl, .non⟩ List.nodup_nil fun _ z => by cases z
/-- the list of slot i leaves -/
def moveS (i : Nat) : M Fl := fun env =>
  match env[i]? with
  | some (some (.own xs)) => some (.ok (.rt (.own xs)) (env.set i none))
  | _ => none
theorem OkS.move (i : Nat) : OkS K E bx (tRet (tVar i)) (moveS i) := by
  refine ⟨?_⟩
  intro B σ H env l rs rp h D post
  unfold moveS at h
  split at h
  · rename_i xs hx
    cases h
    obtain ⟨s, a, lx, ly, q1, q2, ⟨v, q3, q4⟩, q5⟩ := rp.rp.focus hx
    subst q3
    have ev : un (un B a) (lx ++ ([] ++ ly)) = un B l := by
      rw [un_app, q2]
      funext b
      refine propext ⟨fun z => z.imp id fun z => ?_, fun z => z.imp id fun z => ?_⟩
      · rcases List.mem_append.mp z with z | z
        · exact List.mem_append_right _ (List.mem_append_left _ z)
        · rcases List.mem_append.mp z with z | z
          · exact List.mem_append_left _ z
          · exact List.mem_append_right _ (List.mem_append_right _ (by simpa using z))
      · rcases List.mem_append.mp z with z | z
        · exact List.mem_append_right _ (List.mem_append_left _ z)
        · rcases List.mem_append.mp z with z | z
          · exact List.mem_append_left _ z
          · exact List.mem_append_right _ (List.mem_append_right _ (by simpa using z))
    have nd := rp.nd
    rw [q2] at nd
    obtain ⟨n1, n2, n3⟩ := List.nodup_append.mp nd
    obtain ⟨n4, n5, n6⟩ := List.nodup_append.mp n2
    have e : σ.set i (some v) = σ := by
      apply List.ext_getElem?
      intro j
      by_cases z : i = j
      · subst z; rw [List.getElem?_set_self (List.getElem?_eq_some_iff.mp q1).1, q1]
      · rw [List.getElem?_set_ne z]
    have r' : Rep K (un B a) σ H (env.set i none) (lx ++ ([] ++ ly)) := by
      refine ⟨?_, ?_, ?_, ?_⟩
      · rw [ev]
        have := q5 (H' := H) (G' := off (un B l) H) (s' := some v) (e' := none) (a' := []) (fun _ _ z => z) (fun _ _ => rfl) (fun _ _ => rfl) rfl
        rw [e] at this
        exact this
      · rw [List.nil_append]
        exact List.nodup_append.mpr ⟨n1, n5, fun x hx y hy => n3 x hx y (List.mem_append_right _ hy)⟩
      · intro b z y
        rw [List.nil_append] at z
        rcases y with y | y
        · refine rp.out b ?_ y
          rw [q2]
          exact (List.mem_append.mp z).elim (List.mem_append_left _) fun z => List.mem_append_right _ (List.mem_append_right _ z)
        · rcases List.mem_append.mp z with z | z
          · exact n3 b z b (List.mem_append_left _ y) rfl
          · exact n6 b y b z rfl
      · intro b z
        refine rp.tl b (z.imp id fun z => ?_)
        rw [q2]
        exact List.mem_append_right _ (List.mem_append_left _ z)
    refine ⟨v, q1, post v σ H (lx ++ ([] ++ ly)) a r' ⟨Fr.refl _ _, fun b z => .inl ?_⟩ (fun _ => rfl) (by rw [ev]; exact q4) n4 fun b z => ⟨fun y => ?_, fun y => ?_⟩⟩
    · rw [q2]
      rcases List.mem_append.mp z with z | z
      · rw [List.nil_append] at z
        exact (List.mem_append.mp z).elim (List.mem_append_left _) fun z => List.mem_append_right _ (List.mem_append_right _ z)
      · exact List.mem_append_right _ (List.mem_append_left _ z)
    · rw [List.nil_append] at y
      rcases List.mem_append.mp y with y | y
      · exact n3 b y b (List.mem_append_left _ z) rfl
      · exact n6 b z b y rfl
    · exact rp.out b (by rw [q2]; exact List.mem_append_right _ (List.mem_append_left _ z)) y
  · cases h
def ifS (c : M Bool) (f g : M Fl) : M Fl := M.bind c fun b => if b = true then f else g
theorem OkS.ife {c : TT} {t u : TS} {fc : M Bool} {f g : M Fl} (oc : OkT K E c fc) (o : OkS K E bx t f) (o' : OkS K E bx u g) : OkS K E bx (tIfS c t u) (ifS fc f g) := by
  refine ⟨?_⟩
  intro B σ H env l rs rp h D post
  refine oc.seq rp h post.exn fun b e H1 h1 r1 f1 => ?_
  cases b with
  | true => exact iteT (o.run r1 (by simpa using h1) (post.later (Fr2.of f1) fun _ => rfl))
  | false => exact iteF (o'.run r1 (by simpa using h1) (post.later (Fr2.of f1) fun _ => rfl))
/-! stores to names -/
theorem Rep.put {B : Addr → Prop} {σ : St} {H : Hp} {env : En} {l lw : List Addr} {i : Nat} {v : V} {w : Wv} (r : Rep K (un B lw) σ H env l) (hi : i < env.length) (h : RpW K H (off (un (un B lw) l) H) v w lw) (nd : lw.Nodup) (hw : ∀ b ∈ lw, b ∉ l ∧ ¬ B b) :
    ∃ l', Rep K B (σ.set i (some v)) H (env.set i (some w)) l' ∧ ∀ b ∈ l', b ∈ l ∨ b ∈ lw := by
  obtain ⟨s, a, lx, ly, q1, q2, q3, q5⟩ := r.rp.focus (List.getElem?_eq_getElem hi)
  have nd0 := r.nd
  rw [q2] at nd0
  obtain ⟨n1, n2, n3⟩ := List.nodup_append.mp nd0
  obtain ⟨n4, n5, n6⟩ := List.nodup_append.mp n2
  have mem : ∀ b ∈ lx ++ (lw ++ ly), b ∈ l ∨ b ∈ lw := fun b z => by
    rw [q2]
    rcases List.mem_append.mp z with z | z
    · exact .inl (List.mem_append_left _ z)
    · rcases List.mem_append.mp z with z | z
      · exact .inr z
      · exact .inl (List.mem_append_right _ (List.mem_append_right _ z))
  have sub : Same (off (un (un B lw) l) H) (off (un B (lx ++ (lw ++ ly))) H) := off_mono (fun b z n => absurd (z.elim (fun z => .inl (.inl z)) fun z => (mem b z).elim .inr fun z => .inl (.inr z)) n) fun b o n e => e
  refine ⟨lx ++ (lw ++ ly), ⟨q5 sub (fun _ _ => rfl) (fun _ _ => rfl) ⟨v, rfl, h.mv sub fun _ _ => rfl⟩, ?_, ?_, fun b z => r.tb b (.inl z)⟩, mem⟩
  · have inl : ∀ b ∈ ly, b ∈ l := fun b z => by rw [q2]; exact List.mem_append_right _ (List.mem_append_right _ z)
    have inx : ∀ b ∈ lx, b ∈ l := fun b z => by rw [q2]; exact List.mem_append_left _ z
    refine List.nodup_append.mpr ⟨n1, List.nodup_append.mpr ⟨nd, n5, fun x hx y hy e => (hw x hx).1 (by rw [e]; exact inl y hy)⟩, fun x hx y hy e => ?_⟩
    rcases List.mem_append.mp hy with z | z
    · exact (hw y z).1 (by rw [← e]; exact inx x hx)
    · exact n3 x hx y (List.mem_append_right _ z) e
  · intro b z y
    rcases mem b z with z | z
    · exact r.out b z (.inl y)
    · exact (hw b z).2 y
def putM (i : Nat) (w : Wv) : M Unit := fun env => if i < env.length then some (.ok () (env.set i (some w))) else none
theorem putM_some {i : Nat} {w : Wv} {env : En} {rs : Rs Unit} (h : putM i w env = some rs) : i < env.length ∧ rs = .ok () (env.set i (some w)) := by
  unfold putM at h
  split at h
  · cases h; exact ⟨by assumption, rfl⟩
  · cases h
def setS (i : Nat) (f : M Wv) : M Fl := M.bind f fun w => M.bind (putM i w) fun _ => M.pure .nx
theorem putM_step {α : Type} {i : Nat} {w : Wv} {g : Unit → M α} {env : En} {rs : Rs α} (h : (M.bind (putM i w) g) env = some rs) : i < env.length ∧ g () (env.set i (some w)) = some rs := by
  rcases bind_some h with ⟨a, e, h1, h2⟩ | ⟨C, f, d, h1, h2⟩
  · obtain ⟨z, e1⟩ := putM_some h1
    cases e1
    exact ⟨z, h2⟩
  · obtain ⟨z, e1⟩ := putM_some h1
    cases e1
theorem OkS.set {i : Nat} {t : TE} {f : M Wv} (hb : bx = true → i ≠ 0) (o : OkW K E t f) : OkS K E bx (tAsg t (gName i)) (setS i f) := by
  refine ⟨?_⟩
  intro B σ H env l rs rp h D post
  refine o.seq rp h post.exn fun w e v H' lw h1 r1 f1 q1 nd fr => ?_
  obtain ⟨hi, h2⟩ := putM_step h1
  cases h2
  obtain ⟨l', r', m⟩ := r1.put hi q1 nd fun b z => ⟨fun y => rp.fresh (fr b z) (.inr y), fun y => rp.fresh (fr b z) (.inl y)⟩
  exact post _ H' l' r' ⟨f1, fun b z => (m b z).imp id (fr b)⟩ fun z => List.getElem?_set_ne (hb z)
end
end Ov

set_option Elab.async false
set_option linter.all false
set_option maxRecDepth 100000
set_option maxHeartbeats 4000000
namespace Ov
open PySem L2
/-! targets -/
def isOwn : Option (Option Wv) → Bool
  | some (some (.own _)) => true
  | some (some (.dct _)) => true
  | _ => false
def free (env : En) (js : List Nat) : Prop := ∀ j ∈ js, isOwn env[j]? = false
section
variable {K : PySem.W.Frag} {E : XK} {bx : Bool}
structure OkG (K : PySem.W.Frag) (g : TG) (js : List Nat) (p : PyData → En → Option En) : Prop where
  run : ∀ {B : Addr → Prop} {σ : St} {H : Hp} {env env' : En} {l : List Addr} {v : V} {d : PyData}, Rep K B σ H env l → Da K (off (un B l) H) v d → p d env = some env' → ∀ {Q : St → Hp → Prop},
    (∀ σ' l', Rep K B σ' H env' l' → (∀ b ∈ l', b ∈ l) → (free env js → l' = l) → (∀ j, j ∉ js → σ'[j]? = σ[j]?) → Q σ' H) → g v σ H Q
  keep : ∀ {d : PyData} {env env' : En}, p d env = some env' → (∀ j, j ∉ js → env'[j]? = env[j]?) ∧ (∀ j ∈ js, isOwn env'[j]? = false) ∧ env'.length = env.length
structure OkGs (K : PySem.W.Frag) (g : TGs) (js : List Nat) (n : Nat) (p : List PyData → En → Option En) : Prop where
  run : ∀ {B : Addr → Prop} {σ : St} {H : Hp} {env env' : En} {l : List Addr} {vs : List V} {ds : List PyData}, Rep K B σ H env l → DaAll K (off (un B l) H) vs ds → p ds env = some env' → ∀ {Q : St → Hp → Prop},
    (∀ σ' l', Rep K B σ' H env' l' → (∀ b ∈ l', b ∈ l) → (free env js → l' = l) → (∀ j, j ∉ js → σ'[j]? = σ[j]?) → Q σ' H) → g vs σ H Q
  keep : ∀ {ds : List PyData} {env env' : En}, p ds env = some env' → (∀ j, j ∉ js → env'[j]? = env[j]?) ∧ (∀ j ∈ js, isOwn env'[j]? = false) ∧ env'.length = env.length
  len : ∀ {ds : List PyData} {env env' : En}, p ds env = some env' → ds.length = n
def gN (i : Nat) (d : PyData) (env : En) : Option En := if i < env.length then some (env.set i (some (.dat d))) else none
theorem Rep.putD {B : Addr → Prop} {σ : St} {H : Hp} {env : En} {l : List Addr} {i : Nat} {v : V} {d : PyData} (r : Rep K B σ H env l) (hi : i < env.length) (h : Da K (off (un B l) H) v d) :
    ∃ l', Rep K B (σ.set i (some v)) H (env.set i (some (.dat d))) l' ∧ (∀ b ∈ l', b ∈ l) ∧ (isOwn env[i]? = false → l' = l) := by
  obtain ⟨s, a, lx, ly, q1, q2, q3, q5⟩ := r.rp.focus (List.getElem?_eq_getElem hi)
  have nd0 := r.nd
  rw [q2] at nd0
  obtain ⟨n1, n2, n3⟩ := List.nodup_append.mp nd0
  obtain ⟨n4, n5, n6⟩ := List.nodup_append.mp n2
  have mem : ∀ b ∈ lx ++ ([] ++ ly), b ∈ l := fun b z => by
    rw [q2]
    rcases List.mem_append.mp z with z | z
    · exact List.mem_append_left _ z
    · exact List.mem_append_right _ (List.mem_append_right _ (by simpa using z))
  have sub : Same (off (un B l) H) (off (un B (lx ++ ([] ++ ly))) H) := off_mono (fun b z n => absurd (z.imp id (mem b)) n) fun b o n e => e
  refine ⟨lx ++ ([] ++ ly), ⟨q5 sub (fun _ _ => rfl) (fun _ _ => rfl) ⟨v, rfl, rfl, Da.same sub d h⟩, ?_, fun b z => r.out b (mem b z), r.tb⟩, mem, fun z => ?_⟩
  · rw [List.nil_append]
    exact List.nodup_append.mpr ⟨n1, n5, fun x hx y hy => n3 x hx y (List.mem_append_right _ hy)⟩
  · rw [List.getElem?_eq_getElem hi] at z
    have : a = [] := by
      cases q : env[i] with
      | none => rw [q] at q3; exact q3
      | some w =>
        rw [q] at q3 z
        obtain ⟨v', _, q3⟩ := q3
        cases w with
        | dat _ => exact q3.1
        | own xs => cases z
        | dct ks => cases z
        | exc _ _ _ => exact q3.1
    rw [q2, this]
theorem OkG.name (i : Nat) : OkG K (gName i) [i] (gN i) := by
  refine ⟨?_, ?_⟩
  · intro B σ H env env' l v d r h e Q q
    unfold gN at e
    split at e
    · rename_i hi
      cases e
      obtain ⟨l', r', m, f⟩ := r.putD hi h
      exact q _ l' r' m (fun z => f (z i (List.mem_cons_self ..))) fun j n => List.getElem?_set_ne fun z => n (by rw [z]; exact List.mem_cons_self ..)
    · cases e
  · intro d env env' e
    unfold gN at e
    split at e
    · rename_i hi
      cases e
      refine ⟨fun j n => List.getElem?_set_ne fun z => n (by rw [z]; exact List.mem_cons_self ..), fun j z => ?_, List.length_set ..⟩
      cases List.mem_singleton.mp z
      rw [List.getElem?_set_self hi]
      rfl
    · cases e
def gsN (ds : List PyData) (env : En) : Option En :=
  match ds with
  | [] => some env
  | _ => none
def gsC (p : PyData → En → Option En) (q : List PyData → En → Option En) (ds : List PyData) (env : En) : Option En :=
  match ds with
  | d :: r => (p d env).bind fun e => q r e
  | [] => none
theorem OkGs.nil : OkGs K gNil [] 0 gsN := by
  refine ⟨?_, ?_, ?_⟩
  · intro B σ H env env' l vs ds r h e Q q
    unfold gsN at e
    split at e
    · cases e; cases h; exact ⟨rfl, q σ l r (fun _ z => z) (fun _ => rfl) fun _ _ => rfl⟩
    · cases e
  · intro ds env env' e
    unfold gsN at e
    split at e
    · cases e; exact ⟨fun _ _ => rfl, fun _ z => (by cases z), rfl⟩
    · cases e
  · intro ds env env' e
    unfold gsN at e
    split at e
    · rfl
    · cases e
theorem OkGs.cons {g : TG} {gs : TGs} {is js : List Nat} {n : Nat} {p : PyData → En → Option En} {q : List PyData → En → Option En} (o : OkG K g is p) (os : OkGs K gs js n q) : OkGs K (gCons g gs) (is ++ js) (n + 1) (gsC p q) := by
  have two : ∀ {d : PyData} {env e : En}, p d env = some e → free env (is ++ js) → free env is ∧ free e js := fun {d env e} h f => by
    obtain ⟨k1, k2, _⟩ := o.keep h
    refine ⟨fun j z => f j (List.mem_append_left _ z), fun j z => ?_⟩
    by_cases y : j ∈ is
    · exact k2 j y
    · rw [k1 j y]; exact f j (List.mem_append_right _ z)
  refine ⟨?_, ?_, ?_⟩
  · intro B σ H env env' l vs ds r h e Q k
    cases ds with
    | nil => cases e
    | cons d ds =>
      obtain ⟨e1, h1, h2⟩ := Option.bind_eq_some_iff.mp (show (p d env).bind (fun e => q ds e) = some env' from e)
      cases h with
      | cons ha hr =>
        refine ⟨_, _, rfl, o.run r ha h1 fun σ1 l1 r1 m1 f1 k1 => ?_⟩
        have sub : Same (off (un B l) H) (off (un B l1) H) := off_mono (fun b z n => absurd (z.imp id (m1 b)) n) fun b o n e => e
        refine os.run r1 (DaAll.same sub ds hr) h2 fun σ2 l2 r2 m2 f2 k2 => ?_
        refine k σ2 l2 r2 (fun b z => m1 b (m2 b z)) (fun f => ?_) fun j n => ?_
        · obtain ⟨f3, f4⟩ := two h1 f
          rw [f2 f4, f1 f3]
        · rw [k2 j fun z => n (List.mem_append_right _ z), k1 j fun z => n (List.mem_append_left _ z)]
  · intro ds env env' e
    cases ds with
    | nil => cases e
    | cons d ds =>
      obtain ⟨e1, h1, h2⟩ := Option.bind_eq_some_iff.mp (show (p d env).bind (fun e => q ds e) = some env' from e)
      obtain ⟨a1, a2, a3⟩ := o.keep h1
      obtain ⟨b1, b2, b3⟩ := os.keep h2
      refine ⟨fun j n => ?_, fun j z => ?_, b3.trans a3⟩
      · rw [b1 j fun z => n (List.mem_append_right _ z), a1 j fun z => n (List.mem_append_left _ z)]
      · by_cases y : j ∈ js
        · exact b2 j y
        · rw [b1 j y]
          exact a2 j ((List.mem_append.mp z).resolve_right y)
  · intro ds env env' e
    cases ds with
    | nil => cases e
    | cons d ds =>
      obtain ⟨e1, h1, h2⟩ := Option.bind_eq_some_iff.mp (show (p d env).bind (fun e => q ds e) = some env' from e)
      rw [List.length_cons, os.len h2]
def gT (q : List PyData → En → Option En) (d : PyData) (env : En) : Option En :=
  match d with
  | .tuple ds => q ds env
  | _ => none
theorem OkG.tup {gs : TGs} {js : List Nat} {n : Nat} {q : List PyData → En → Option En} (os : OkGs K gs js n q) : OkG K (gTup K n gs) js (gT q) := by
  refine ⟨?_, ?_⟩
  · intro B σ H env env' l v d r h e Q k
    cases d with
    | tuple ds =>
      cases h with
      | tup hq ha =>
        exact ⟨_, _, rfl, seqT (off_sub _ _) hq, (daAll_len ha).trans (os.len (show q ds env = some env' from e)), os.run r ha e k⟩
    | none => cases e
    | bool _ => cases e
    | int _ => cases e
    | str _ => cases e
    | list _ => cases e
    | dict _ => cases e
  · intro d env env' e
    cases d with
    | tuple ds => exact os.keep (show q ds env = some env' from e)
    | none => cases e
    | bool _ => cases e
    | int _ => cases e
    | str _ => cases e
    | list _ => cases e
    | dict _ => cases e
def liftE (p : En → Option En) : M Unit := fun env => (p env).map fun e => .ok () e
theorem liftE_step {α : Type} {p : En → Option En} {g : Unit → M α} {env : En} {rs : Rs α} (h : (M.bind (liftE p) g) env = some rs) : ∃ e, p env = some e ∧ g () e = some rs := by
  rcases bind_some h with ⟨a, e, h1, h2⟩ | ⟨C, f, d, h1, h2⟩
  · obtain ⟨e', h3, h4⟩ := Option.map_eq_some_iff.mp (show (p env).map (fun e => Rs.ok () e) = _ from h1)
    cases h4
    exact ⟨e, h3, h2⟩
  · obtain ⟨e', h3, h4⟩ := Option.map_eq_some_iff.mp (show (p env).map (fun e => Rs.ok () e) = _ from h1)
    cases h4
def asD : R → Option PyData
  | .dat d => some d
  | _ => none
theorem asD_some {a : R} {d : PyData} (h : asD a = some d) : a = .dat d := by
  unfold asD at h
  split at h
  · cases h; rfl
  · cases h
/-- a, b = e -/
def unS (p : PyData → En → Option En) (f : M R) : M Fl := M.bind f fun r => M.bind (lift (asD r)) fun d => M.bind (liftE (p d)) fun _ => M.pure .nx
theorem OkS.unpack {g : TG} {js : List Nat} {p : PyData → En → Option En} {t : TE} {f : M R} (og : OkG K g js p) (hb : bx = true → 0 ∉ js) (o : OkE K E t f) : OkS K E bx (tAsg t g) (unS p f) := by
  refine ⟨?_⟩
  intro B σ H env l rs rp h D post
  refine o.seq rp h post.exn fun a e v H' h1 r1 f1 q1 => ?_
  obtain ⟨d, h2, h3⟩ := lift_step h1
  obtain ⟨e2, h4, h5⟩ := liftE_step h3
  cases h5
  rw [asD_some h2] at q1
  exact og.run r1 q1 h4 fun σ' l' r' m f k => post σ' H' l' r' ⟨f1, fun b z => .inl (m b z)⟩ fun z => k 0 (hb z)
/-! what is walked -/
def PostI (K : PySem.W.Frag) (E : XK) (B : Addr → Prop) (σ : St) (H : Hp) (l : List Addr) (rs : Rs (List PyData)) (R : It → Hp → Prop) : Prop :=
  match rs with
  | .ok ds env' => ∀ J H' G Y, Rep K B σ H' env' l → Fr l H H' → Walk J ds.length G Y → (∀ H2, Fr l H' H2 → G H2) →
      (∀ i x H2 H3 d S, Fr l H' H2 → Y i H2 x H3 → ds[i]? = some d → (∀ b, S b → un B l b ∨ H' b = none) → (∀ b, S b → ∃ o, H2 b = some o ∧ NT o) → Same H2 H3 ∧ Da K (off S H3) x d) → R J H'
  | .ex C f d => Exn K E B H l C f d
structure OkI (K : PySem.W.Frag) (E : XK) (t : TI) (f : M (List PyData)) : Prop where
  run : ∀ {B : Addr → Prop} {σ : St} {H : Hp} {env : En} {l : List Addr} {rs : Rs (List PyData)}, Rep K B σ H env l → f env = some rs → ∀ {R : It → Hp → Prop}, PostI K E B σ H l rs R → t σ H R
theorem PostI.exn {B : Addr → Prop} {σ : St} {H : Hp} {l : List Addr} {rs : Rs (List PyData)} {R : It → Hp → Prop} (h : PostI K E B σ H l rs R) : ∀ C f d, rs = .ex C f d → Exn K E B H l C f d := fun C f d e => by subst e; exact h
theorem Da.walk {B S : Addr → Prop} {l : List Addr} {H H2 : Hp} {x : V} {d : PyData} (h : Da K (off (un B l) H) x d) (f : Fr l H H2) (hs : ∀ b, S b → un B l b ∨ H b = none) : Da K (off S H2) x d :=
  Da.same (off_mono (fun b z n => (hs b z).resolve_left n) fun b o n e => f b o (fun z => n (.inr z)) e) d h
/-! for -/
def forM (p : PyData → En → Option En) (body : M Fl) : List PyData → M Fl
  | [] => M.pure .nx
  | d :: ds => fun env =>
    match p d env with
    | none => none
    | some e =>
      match body e with
      | none => none
      | some (.ex C f d) => some (.ex C f d)
      | some (.ok .nx e2) => forM p body ds e2
      | some (.ok .ct e2) => forM p body ds e2
      | some (.ok .bk e2) => some (.ok .nx e2)
      | some (.ok (.rt w) e2) => some (.ok (.rt w) e2)
def forS (fi : M (List PyData)) (p : PyData → En → Option En) (body : M Fl) : M Fl := M.bind fi fun ds => forM p body ds
theorem OkS.for {wi : TI} {g : TG} {tb : TS} {fi : M (List PyData)} {js : List Nat} {p : PyData → En → Option En} {body : M Fl} (oi : OkI K E wi fi) (og : OkG K g js p) (hb : bx = true → 0 ∉ js) (ob : OkS K E bx tb body) : OkS K E bx (tFor wi g tb) (forS fi p body) := by
  refine ⟨?_⟩
  intro B σ H env l rs rp h D post
  rcases bind_some h with ⟨ds, e0, h1, h2⟩ | ⟨C, f, d, h1, h2⟩
  case inr => exact oi.run rp h1 (post.exn C f d h2)
  refine oi.run rp h1 ?_
  intro J H1 G Y r1 f1 wk hG hY
  have post1 := post.later (Fr2.of f1) (σ1 := σ) fun _ => rfl
  refine for_it wk (fun i σ' H' => ∃ env_i l_i, Rep K B σ' H' env_i l_i ∧ Fr2 l H1 l_i H' ∧ (bx = true → σ'[0]? = σ[0]?) ∧ forM p body (ds.drop i) env_i = some rs) ⟨e0, l, r1, Fr2.refl _ _, fun _ => rfl, h2⟩ (fun i σ' H' _ ⟨_, _, _, f, _⟩ => hG H' f.fr) ?_ ?_
  · rintro i x σ' H2 H3 hi ⟨ei, li, ri, fi, b0, hi2⟩ hy
    have hd : ds.drop i = ds[i] :: ds.drop (i + 1) := List.drop_eq_getElem_cons hi
    rw [hd] at hi2
    unfold forM at hi2
    obtain ⟨s3, da⟩ := hY i x H2 H3 ds[i] (un B li) fi.fr hy (List.getElem?_eq_getElem hi) (fun b z => z.elim (fun z => .inl (.inl z)) fun z => (fi.sub b z).imp .inr id) ri.tl
    have r3 := ri.same s3
    cases q : p ds[i] ei with
    | none => rw [q] at hi2; cases hi2
    | some e2 =>
      rw [q] at hi2
      simp only at hi2
      refine og.run r3 da q fun σ4 l4 r4 m4 _ k4 => ?_
      have f4 : Fr2 l H1 l4 H3 := fi.trans ⟨Fr.of s3, fun b z => .inl (m4 b z)⟩
      have b4 : bx = true → σ4[0]? = σ[0]? := fun z => (k4 0 (hb z)).trans (b0 z)
      cases q2 : body e2 with
      | none => rw [q2] at hi2; cases hi2
      | some z =>
        rw [q2] at hi2
        cases z with
        | ex C f d => cases hi2; exact ob.run r4 q2 (Exn.later2 post1 f4)
        | ok fl e3 =>
          cases fl with
          | nx => exact ob.run r4 q2 fun σ5 H5 l5 r5 f5 b5 => ⟨e3, l5, r5, f4.trans f5, fun z => (b5 z).trans (b4 z), hi2⟩
          | ct => exact ob.run r4 q2 fun σ5 H5 l5 r5 f5 b5 => ⟨e3, l5, r5, f4.trans f5, fun z => (b5 z).trans (b4 z), hi2⟩
          | bk => cases hi2; exact ob.run r4 q2 fun σ5 H5 l5 r5 f5 b5 => post1 σ5 H5 l5 r5 (f4.trans f5) fun z => (b5 z).trans (b4 z)
          | rt w => cases hi2; exact ob.run r4 q2 fun v σ5 H5 l5 lw r5 f5 b5 => post1 v σ5 H5 l5 lw r5 (f4.trans f5) fun z => (b5 z).trans (b4 z)
  · rintro σ' H' ⟨en, ln, rn, fn, b0, hn⟩
    rw [List.drop_length] at hn
    cases hn
    exact post1 σ' H' ln rn fn b0
/-! while -/
def whileM (c : M Bool) (body : M Fl) : Nat → M Fl
  | 0 => fun _ => none
  | n + 1 => fun env =>
    match c env with
    | none => none
    | some (.ex C f d) => some (.ex C f d)
    | some (.ok b e) => if b = true then
        match body e with
        | none => none
        | some (.ex C f d) => some (.ex C f d)
        | some (.ok .nx e2) => whileM c body n e2
        | some (.ok .ct e2) => whileM c body n e2
        | some (.ok .bk e2) => some (.ok .nx e2)
        | some (.ok (.rt w) e2) => some (.ok (.rt w) e2)
      else some (.ok .nx e)
theorem OkS.while {c : TT} {tb : TS} {fc : M Bool} {body : M Fl} (n : Nat) (oc : OkT K E c fc) (ob : OkS K E bx tb body) : OkS K E bx (tWhile c tb) (whileM fc body n) := by
  refine ⟨?_⟩
  intro B σ H env l rs rp h D post
  refine ⟨fun m σ' H' => ∃ en ln, Rep K B σ' H' en ln ∧ Fr2 l H ln H' ∧ (bx = true → σ'[0]? = σ[0]?) ∧ whileM fc body m en = some rs, ⟨n, env, l, rp, Fr2.refl _ _, fun _ => rfl, h⟩, ?_⟩
  rintro m σ' H' ⟨en, ln, rn, fn, b0, hm⟩
  cases m with
  | zero => cases hm
  | succ m =>
    unfold whileM at hm
    cases q : fc en with
    | none => rw [q] at hm; cases hm
    | some z =>
      rw [q] at hm
      cases z with
      | ex C f d => cases hm; exact oc.run rn q (Exn.later2 post fn)
      | ok b e =>
        refine oc.run rn q fun H1 r1 f1 => ?_
        have f1' := fn.trans (Fr2.of f1)
        cases b with
        | false =>
          refine iteF ?_
          cases hm
          exact post σ' H1 ln r1 f1' b0
        | true =>
          refine iteT ?_
          simp only [if_true] at hm
          cases q2 : body e with
          | none => rw [q2] at hm; cases hm
          | some z =>
            rw [q2] at hm
            have nx : ∀ e2, whileM fc body m e2 = some rs → ∀ σ5 H5 l5, Rep K B σ5 H5 e2 l5 → Fr2 ln H1 l5 H5 → (bx = true → σ5[0]? = σ'[0]?) → ∃ en ln, Rep K B σ5 H5 en ln ∧ Fr2 l H ln H5 ∧ (bx = true → σ5[0]? = σ[0]?) ∧ whileM fc body m en = some rs :=
              fun e2 h2 σ5 H5 l5 r5 f5 b5 => ⟨e2, l5, r5, f1'.trans f5, fun z => (b5 z).trans (b0 z), h2⟩
            refine ⟨fun σ5 H5 => ∃ en ln, Rep K B σ5 H5 en ln ∧ Fr2 l H ln H5 ∧ (bx = true → σ5[0]? = σ[0]?) ∧ whileM fc body m en = some rs, fun _ _ z => ⟨m, Nat.lt_succ_self m, z⟩, ?_⟩
            cases z with
            | ex C f d => cases hm; exact ob.run r1 q2 (Exn.later2 post f1')
            | ok fl e3 =>
              cases fl with
              | nx => exact ob.run r1 q2 (nx e3 hm)
              | ct => exact ob.run r1 q2 (nx e3 hm)
              | bk => cases hm; exact ob.run r1 q2 fun σ5 H5 l5 r5 f5 b5 => post σ5 H5 l5 r5 (f1'.trans f5) fun z => (b5 z).trans (b0 z)
              | rt w => cases hm; exact ob.run r1 q2 fun v σ5 H5 l5 lw r5 f5 b5 => post v σ5 H5 l5 lw r5 (f1'.trans f5) fun z => (b5 z).trans (b0 z)
/-! the list of a slot is data from here on -/
def frzM (i : Nat) : M Unit := fun env =>
  match env[i]? with
  | some (some (.own xs)) => some (.ok () (env.set i (some (.dat (.list (xs.map itD))))))
  | some _ => some (.ok () env)
  | none => none
theorem OkS.frz (i : Nat) {t : TS} {f : M Fl} (o : OkS K E bx t f) : OkS K E bx t (M.bind (frzM i) fun _ => f) := by
  refine ⟨?_⟩
  intro B σ H env l rs rp h D post
  rcases bind_some h with ⟨u, e, h1, h2⟩ | ⟨C, f, d, h1, h2⟩
  · unfold frzM at h1
    split at h1
    · rename_i xs hx
      cases h1
      obtain ⟨s, a, lx, ly, q1, q2, ⟨v, q3, q4⟩, q5⟩ := rp.rp.focus hx
      subst q3
      have hi : i < env.length := (List.getElem?_eq_some_iff.mp hx).1
      have nd := rp.nd
      rw [q2] at nd
      obtain ⟨n1, n2, n3⟩ := List.nodup_append.mp nd
      obtain ⟨n4, n5, n6⟩ := List.nodup_append.mp n2
      have mem : ∀ b ∈ lx ++ ([] ++ ly), b ∈ l ∧ b ∉ a := fun b z => by
        rw [q2]
        rcases List.mem_append.mp z with z | z
        · exact ⟨List.mem_append_left _ z, fun y => n3 b z b (List.mem_append_left _ y) rfl⟩
        · have z : b ∈ ly := by simpa using z
          exact ⟨List.mem_append_right _ (List.mem_append_right _ z), fun y => n6 b y b z rfl⟩
      have e : σ.set i (some v) = σ := by
        apply List.ext_getElem?
        intro j
        by_cases z : i = j
        · subst z; rw [List.getElem?_set_self (List.getElem?_eq_some_iff.mp q1).1, q1]
        · rw [List.getElem?_set_ne z]
      have sub : Same (off (un B l) H) (off (un B (lx ++ ([] ++ ly))) H) := off_mono (fun b z n => absurd (z.imp id fun z => (mem b z).1) n) fun b o n e => e
      have da : Da K (off (un B (lx ++ ([] ++ ly))) H) v (.list (xs.map itD)) := by
        have := rpW_free (σ := σ) (show ofW (.own xs) = some _ from rfl) sub (fun b z us e => (off_ne fun y => ?_).trans e) q4
        · exact this
        · rcases y with y | y
          · exact rp.out b (by rw [q2]; exact List.mem_append_right _ (List.mem_append_left _ z)) y
          · exact (mem b y).2 z
      have r' : Rep K B σ H (env.set i (some (.dat (.list (xs.map itD))))) (lx ++ ([] ++ ly)) := by
        refine ⟨?_, ?_, fun b z => rp.out b (mem b z).1, rp.tb⟩
        · have := q5 sub (fun _ _ => rfl) (fun _ _ => rfl) (show RpS K H _ (some v) (some (.dat (.list (xs.map itD)))) [] from ⟨v, rfl, rfl, da⟩)
          rw [e] at this
          exact this
        · rw [List.nil_append]
          exact List.nodup_append.mpr ⟨n1, n5, fun x hx y hy => n3 x hx y (List.mem_append_right _ hy)⟩
      exact o.run r' h2 (post.later ⟨Fr.refl _ _, fun b z => .inl (mem b z).1⟩ fun _ => rfl)
    · cases h1; exact o.run rp h2 post
    · cases h1
  · unfold frzM at h1
    split at h1 <;> cases h1
end
end Ov

set_option Elab.async false
set_option linter.all false
set_option maxRecDepth 100000
set_option maxHeartbeats 4000000
namespace Ov
open PySem L2
/-! comprehensions -/
def wipeE (env : En) : List Nat → En
  | [] => env
  | v :: vs => (wipeE env vs).set v none
def freeB (env : En) (js : List Nat) : Bool := js.all fun j => !isOwn env[j]?
theorem freeB_free {env : En} {js : List Nat} (h : freeB env js = true) : free env js := fun j z => by
  have := List.all_eq_true.mp h j z
  simpa using this
theorem wipeE_length (env : En) : ∀ vs : List Nat, (wipeE env vs).length = env.length
  | [] => rfl
  | v :: vs => by unfold wipeE; rw [List.length_set, wipeE_length env vs]
theorem wipe_get (σ : St) (j : Nat) : ∀ vs : List Nat, (wipe σ vs)[j]? = if j ∈ vs then (if j < σ.length then some none else none) else σ[j]?
  | [] => by simp [wipe]
  | v :: vs => by
    unfold wipe
    have ih := wipe_get σ j vs
    by_cases e : v = j
    · subst e
      by_cases h : v < σ.length
      · rw [List.getElem?_set_self (by rw [wipe_length]; exact h)]; simp [h]
      · rw [List.getElem?_eq_none (by rw [List.length_set, wipe_length]; omega)]; simp [h]
    · rw [List.getElem?_set_ne e, ih]
      have : (j ∈ v :: vs) ↔ j ∈ vs := ⟨fun z => (List.mem_cons.mp z).resolve_left fun z => e z.symm, List.mem_cons_of_mem _⟩
      simp only [this]
theorem wipeE_get (σ : En) (j : Nat) : ∀ vs : List Nat, (wipeE σ vs)[j]? = if j ∈ vs then (if j < σ.length then some none else none) else σ[j]?
  | [] => by simp [wipeE]
  | v :: vs => by
    unfold wipeE
    have ih := wipeE_get σ j vs
    by_cases e : v = j
    · subst e
      by_cases h : v < σ.length
      · rw [List.getElem?_set_self (by rw [wipeE_length]; exact h)]; simp [h]
      · rw [List.getElem?_eq_none (by rw [List.length_set, wipeE_length]; omega)]; simp [h]
    · rw [List.getElem?_set_ne e, ih]
      have : (j ∈ v :: vs) ↔ j ∈ vs := ⟨fun z => (List.mem_cons.mp z).resolve_left fun z => e z.symm, List.mem_cons_of_mem _⟩
      simp only [this]
theorem wipe_ext {σ τ : St} {vs : List Nat} (hl : σ.length = τ.length) (h : ∀ j, j ∉ vs → σ[j]? = τ[j]?) : wipe σ vs = wipe τ vs := by
  apply List.ext_getElem?
  intro j
  rw [wipe_get, wipe_get, hl]
  by_cases z : j ∈ vs
  · simp [z]
  · simp only [z, if_false]; exact h j z
section
variable {K : PySem.W.Frag} {E : XK} {bx : Bool} {H G : Hp}
theorem RpE.drop1 {σ : St} {env : En} {l : List Addr} {v : Nat} (h : RpE K H G σ env l) (f : isOwn env[v]? = false) : RpE K H G (σ.set v none) (env.set v none) l := by
  cases q : env[v]? with
  | none =>
    have n : env.length ≤ v := List.getElem?_eq_none_iff.mp q
    rw [List.set_eq_of_length_le n, List.set_eq_of_length_le (by rw [h.len]; exact n)]
    exact h
  | some e =>
    obtain ⟨s, a, lx, ly, q1, q2, q3, q5⟩ := h.focus q
    have ha : a = [] := by
      rw [q] at f
      cases e with
      | none => exact q3
      | some w =>
        obtain ⟨_, _, q3⟩ := q3
        cases w with
        | dat _ => exact q3.1
        | own _ => cases f
        | dct _ => cases f
        | exc _ _ _ => exact q3.1
    rw [q2, ha]
    exact q5 (fun _ _ z => z) (fun _ _ => rfl) (fun _ _ => rfl) rfl
theorem RpE.wipe {σ : St} {env : En} {l : List Addr} (h : RpE K H G σ env l) : ∀ {vs : List Nat}, free env vs → RpE K H G (L2.wipe σ vs) (wipeE env vs) l
  | [], _ => h
  | v :: vs, f => by
    refine RpE.drop1 (RpE.wipe h (vs := vs) fun j z => f j (List.mem_cons_of_mem _ z)) ?_
    rw [wipeE_get]
    by_cases z : v ∈ vs
    · simp only [z, if_true]
      by_cases y : v < env.length
      · simp [y, isOwn]
      · simp [y, isOwn]
    · simp only [z, if_false]; exact f v (List.mem_cons_self ..)
/-- what stands in empty slots does not matter -/
theorem RpE.any : ∀ {σ τ : St} {env : En} {l : List Addr}, RpE K H G σ env l → σ.length = τ.length → (∀ (j : Nat) (w : Wv), env[j]? = some (some w) → τ[j]? = σ[j]?) → RpE K H G τ env l
  | [], [], [], l, h, _, _ => h
  | s :: σ, t :: τ, e :: env, l, ⟨a, b, z, h1, h2⟩, hl, hk => by
    refine ⟨a, b, z, ?_, RpE.any h2 (by simpa using hl) fun j w q => hk (j + 1) w q⟩
    cases e with
    | none => exact h1
    | some w =>
      have : t = s := Option.some.inj (hk 0 w rfl)
      rw [this]
      exact h1
theorem Rep.wipe {B : Addr → Prop} {σ : St} {env : En} {l : List Addr} {vs : List Nat} (r : Rep K B σ H env l) (f : free env vs) : Rep K B (L2.wipe σ vs) H (wipeE env vs) l := ⟨r.rp.wipe f, r.nd, r.out, r.tb⟩
theorem Rep.amb {B : Addr → Prop} {σ : St} {env : En} {l : List Addr} {p : Addr} {o : HO} (r : Rep K B σ H env l) (hp : B p) (n : NT o) : Rep K B σ (upd H p o) env l := by
  have sub : Same (off (un B l) H) (off (un B l) (upd H p o)) := off_mono (fun b z n => absurd z n) fun b o n e => by rw [upd_ne (fun z => n (.inl (by rw [z]; exact hp)))]; exact e
  refine ⟨r.rp.mv sub fun q z => upd_ne fun y => r.out q z (y ▸ hp), r.nd, r.out, fun b z => ?_⟩
  by_cases e : b = p
  · subst e; exact ⟨o, upd_same, n⟩
  · rw [upd_ne e]; exact r.tb b z
def yesT : M Bool := M.pure true
theorem OkT.yes : OkT K E tYes yesT := by
  refine ⟨?_⟩
  intro B σ H env l rs rp h Q post
  cases h
  exact post H rp (Fr.refl _ _)
def compM (p : PyData → En → Option En) (ft : M Bool) (fe : M R) (vs : List Nat) : List PyData → List PyData → M (List PyData)
  | [], acc => M.pure acc
  | d :: ds, acc => fun env =>
    match p d env with
    | none => none
    | some e =>
      match ft e with
      | some (.ok b e2) => if b = true then
          match fe e2 with
          | some (.ok (.dat y) e3) => if freeB e3 vs = true ∧ acc.length < 1000000 then compM p ft fe vs ds (acc ++ [y]) (wipeE e3 vs) else none
          | _ => none
        else if freeB e2 vs = true then compM p ft fe vs ds acc (wipeE e2 vs) else none
      | _ => none
theorem compM_noex {p : PyData → En → Option En} {ft : M Bool} {fe : M R} {vs : List Nat} : ∀ {ds acc : List PyData} {env : En} {C : Addr} {f : Str} {d : PyData}, compM p ft fe vs ds acc env ≠ some (.ex C f d)
  | [], acc, env, C, f, d, h => by cases h
  | d :: ds, acc, env, C, f, d', h => by
    unfold compM at h
    split at h
    · cases h
    · split at h
      · split at h
        · split at h
          · split at h
            · exact compM_noex h
            · cases h
          · cases h
        · split at h
          · exact compM_noex h
          · cases h
      · cases h
def lcW (fi : M (List PyData)) (p : PyData → En → Option En) (ft : M Bool) (fe : M R) (vs : List Nat) : M Wv := M.bind fi fun ds => fun env => if freeB env vs = true then (M.bind (compM p ft fe vs ds []) fun out => M.pure (.own (dats out))) (wipeE env vs) else none
theorem OkW.lc {wi : TI} {g : TG} {tt : TT} {te : TE} {vs js : List Nat} {fi : M (List PyData)} {p : PyData → En → Option En} {ft : M Bool} {fe : M R} (oi : OkI K E wi fi) (og : OkG K g js p) (hj : ∀ j ∈ js, j ∈ vs) (ot : OkT K L2.E0 tt ft) (oe : OkE K L2.E0 te fe) :
    OkW K E (tLc wi g tt te vs) (lcW fi p ft fe vs) := by
  refine ⟨?_⟩
  intro B σ H env l rs rp h Q post
  rcases bind_some h with ⟨ds, e0, h1, h2⟩ | ⟨C, f, d, h1, h2⟩
  case inr => exact oi.run rp h1 (post.exn C f d h2)
  split at h2
  case isFalse => cases h2
  rename_i hf0
  rcases bind_some h2 with ⟨out, e9, h3, h4⟩ | ⟨C, f, d, h3, _⟩
  case inr => exact absurd h3 compM_noex
  cases h4
  refine oi.run rp h1 ?_
  intro J H1 G Y r1 f1 wk hG hY D hD
  have nD : ∀ b ∈ l, b ≠ D := fun b z e => r1.fresh hD (.inr (e ▸ z))
  have r1' : Rep K (un B [D]) σ (upd H1 D (.lst [])) e0 l := r1.grow (same_new hD _) (fun _ z => .inl z) (fun b z => z.imp id fun z => by rw [List.mem_singleton.mp z]; exact hD) fun b z => by
    by_cases e : b = D
    · subst e; exact ⟨_, upd_same, trivial⟩
    · rw [upd_ne e]; exact r1.tb b (z.resolve_right fun z => e (List.mem_singleton.mp z))
  refine lc_it wk (fun i H' => ∃ env_i acc va, Rep K (un B [D]) (L2.wipe σ vs) H' env_i l ∧ Fr l H1 H' ∧ H' D = some (.lst va) ∧ DaAll K (off (un (un B [D]) l) H') va acc ∧ (∀ j ∈ vs, ∀ w, env_i[j]? ≠ some (some w)) ∧ compM p ft fe vs (ds.drop i) acc env_i = some (.ok out e9)) ?_ (fun i H' _ ⟨_, _, _, _, f, _⟩ => hG H' f) ?_ ?_
  · refine ⟨_, [], [], r1'.wipe (freeB_free hf0), Fr.of (same_new hD _), upd_same, .nil, fun j z w => ?_, h3⟩
    rw [wipeE_get]
    simp only [z, if_true]
    split <;> exact fun q => by cases q
  · rintro i x H2 H3 hi ⟨ei, acc, va, ri, fri, hDi, dai, fre, hc⟩ hy
    have hd : ds.drop i = ds[i] :: ds.drop (i + 1) := List.drop_eq_getElem_cons hi
    rw [hd] at hc
    unfold compM at hc
    obtain ⟨s3, da⟩ := hY i x H2 H3 ds[i] (un (un B [D]) l) fri hy (List.getElem?_eq_getElem hi) (fun b z => z.elim (fun z => z.elim (fun z => .inl (.inl z)) fun z => by rw [List.mem_singleton.mp z]; exact .inr hD) fun z => .inl (.inr z)) ri.tl
    have r3 := ri.same s3
    cases q : p ds[i] ei with
    | none => rw [q] at hc; cases hc
    | some e2 =>
      rw [q] at hc
      simp only at hc
      have fr0 : free ei js := fun j z => by
        cases q0 : ei[j]? with
        | none => rfl
        | some w =>
          cases w with
          | none => rfl
          | some w => exact absurd q0 (fre j (hj j z) w)
      refine og.run r3 da q fun σ4 l4 r4 m4 le4 k4 => ?_
      have el := le4 fr0
      subst el
      have sl : σ4.length = (L2.wipe σ vs).length := by rw [r4.len, (og.keep q).2.2, ri.len]
      have wp : L2.wipe σ4 vs = L2.wipe σ vs := by
        rw [wipe_ext sl fun j z => k4 j fun y => z (hj j y)]
        refine wipe_ext (wipe_length σ vs) fun j z => ?_
        rw [wipe_get]
        simp [z]
      refine ⟨wp, ?_⟩
      cases q2 : ft e2 with
      | none => rw [q2] at hc; cases hc
      | some z2 =>
        rw [q2] at hc
        cases z2 with
        | ex C f d => cases hc
        | ok b e3 =>
          refine ot.run r4 q2 fun H4 r5 f5 => ?_
          have nx : ∀ {e5 : En} {H5 : Hp}, Rep K (un B [D]) σ4 H5 e5 l4 → freeB e5 vs = true → Rep K (un B [D]) (L2.wipe σ vs) H5 (wipeE e5 vs) l4 ∧ ∀ j ∈ vs, ∀ w, (wipeE e5 vs)[j]? ≠ some (some w) := fun {e5 H5} r fb => by
            refine ⟨by rw [← wp]; exact r.wipe (freeB_free fb), fun j z w => ?_⟩
            rw [wipeE_get]
            simp only [z, if_true]
            split <;> exact fun q => by cases q
          have f25 : Fr l4 H2 H4 := (Fr.of s3).trans f5
          have kD : ∀ {H5 : Hp}, Fr l4 H2 H5 → H5 D = some (.lst va) := fun f => f D _ (fun z => nD D z rfl) hDi
          cases b with
          | false =>
            refine iteF ?_
            simp only [Bool.false_eq_true, if_false] at hc
            split at hc
            · rename_i fb
              obtain ⟨ra, rb⟩ := nx r5 fb
              exact ⟨_, acc, va, ra, fri.trans f25, kD f25, DaAll.same f25.keep acc dai, rb, hc⟩
            · cases hc
          | true =>
            refine iteT ?_
            simp only [if_true] at hc
            cases q3 : fe e3 with
            | none => rw [q3] at hc; cases hc
            | some z3 =>
              rw [q3] at hc
              cases z3 with
              | ex C f d => cases hc
              | ok y e4 =>
                cases y with
                | slot _ => cases hc
                | exc _ _ _ => cases hc
                | dat y =>
                  simp only at hc
                  split at hc
                  · rename_i fb
                    refine oe.run r5 q3 fun v H5 r6 f6 q6 => ?_
                    have f26 := f25.trans f6
                    have sz : va.length < sizeLine := by rw [daAll_len dai]; exact Nat.lt_trans fb.2 (by decide)
                    refine ⟨va, kD f26, sz, ?_⟩
                    obtain ⟨ra, rb⟩ := nx r6 fb.1
                    have hBD : (un B [D]) D := .inr (List.mem_cons_self ..)
                    have sub : Same (off (un (un B [D]) l4) H5) (off (un (un B [D]) l4) (upd H5 D (.lst (va ++ [v])))) := off_mono (fun b z n => absurd z n) fun b o n e => by rw [upd_ne (fun z => n (.inl (by rw [z]; exact hBD)))]; exact e
                    refine ⟨_, acc ++ [y], va ++ [v], ra.amb hBD trivial, fun b o n e => ?_, upd_same, ?_, rb, hc⟩
                    · rw [upd_ne (ne_of_none e hD)]
                      exact (fri.trans f26) b o n e
                    · exact daAll_append (DaAll.same sub acc (DaAll.same f26.keep acc dai)) (.cons (Da.same sub y q6) .nil)
                  · cases hc
  · rintro H9 ⟨en, acc, va, rn, frn, hDn, dan, fre, hc⟩
    rw [List.drop_length] at hc
    cases hc
    have rr : Rep K (un B [D]) σ H9 e9 l := ⟨rn.rp.any (wipe_length σ vs) fun j w q => by
      rw [wipe_get]
      by_cases z : j ∈ vs
      · exact absurd q (fre j z w)
      · simp [z], rn.nd, rn.out, rn.tb⟩
    refine post (.ref D) H9 [D] rr (f1.trans frn) ⟨D, va, [], rfl, rfl, hDn, rp1s_of dan⟩ (List.nodup_cons.mpr ⟨by simp, List.nodup_nil⟩) fun b z => ?_
    rw [List.mem_singleton.mp z]
    cases q : H D with
    | none => rfl
    | some o =>
      rw [f1 D o (fun z => nD D z rfl) q] at hD
      cases hD
end
end Ov

set_option Elab.async false
set_option linter.all false
set_option maxRecDepth 100000
set_option maxHeartbeats 4000000
namespace Ov
open PySem L2
/-! what is walked -/
section
variable {X : Cx} {tg : Expr}
def iSeq (K : PySem.W.Frag) (tl : TE) : TI := fun σ H R => tl σ H fun x H1 => ∃ a xs, x = .ref a ∧ ((SqL K H1 a xs ∧ R (Itl K a) H1) ∨ (SqT K H1 a xs ∧ R (Itt K a) H1))
theorem pi_seq {l : Expr} {tl : TE} (hl : PE X l tl) : PI X tg l (iSeq X.K tl) := by
  refine ⟨fun pins s σ H R I h => ?_⟩
  refine thn (hl.run pins s σ H _ I h) fun v s1 ⟨x, H1, I1, r1, q1⟩ => ?_
  obtain ⟨a, xs, e, ⟨hq, q⟩ | ⟨hq, q⟩⟩ := q1
  · subst e
    cases r1
    obtain ⟨its, rv, p, hz⟩ := I1.list hq
    refine wpAny_pyIter_list p.isList ?_
    refine ⟨s1.heap.objs.size, [s1.heap.objs.size], _, _, H1, rfl, I1.kept (t' := s1.toks) fun b o e => Heap.get?_push_of_some _ e, turn_list a _, ⟨_, Heap.get?_push_size _ rfl, rfl, rfl⟩, fun b hb => ?_, q⟩
    rw [List.mem_singleton.mp hb]
    exact I1.fpOk (Nat.le_refl _) (I1.hok.fresh (Nat.le_refl _))
  · subst e
    cases r1
    obtain ⟨its, rv, p, hz⟩ := I1.tuple hq
    refine wpAny_pyIter_tuple p ?_
    refine ⟨s1.heap.objs.size, [s1.heap.objs.size], _, _, H1, rfl, I1.kept (t' := s1.toks) fun b o e => Heap.get?_push_of_some _ e, turn_tuple a _, ⟨_, Heap.get?_push_size _ rfl, rfl, rfl⟩, fun b hb => ?_, q⟩
    rw [List.mem_singleton.mp hb]
    exact I1.fpOk (Nat.le_refl _) (I1.hok.fresh (Nat.le_refl _))
end
section
variable {K : PySem.W.Frag} {E : XK} {bx : Bool}
def seqI (f : M R) : M (List PyData) := M.bind f fun r => M.bind (lift (asD r)) fun d => lift (seqD d)
theorem OkI.seq {t : TE} {f : M R} (o : OkE K E t f) : OkI K E (iSeq K t) (seqI f) := by
  refine ⟨?_⟩
  intro B σ H env l rs rp h R post
  refine o.seq rp h post.exn fun a e v H1 h1 r1 f1 q1 => ?_
  obtain ⟨d, h2, h3⟩ := lift_step h1
  rw [asD_some h2] at q1
  obtain ⟨ds, h4, h5⟩ := lift_some h3
  subst h5
  have q1 : Da K (off (un B l) H1) v d := q1
  cases d with
  | list es =>
    cases h4
    cases q1 with
    | lst hq ha =>
      refine ⟨_, _, rfl, .inl ⟨rd_sq (rd_same (off_sub _ _) hq), post _ H1 _ _ r1 f1 (by rw [← daAll_len ha]; exact walk_list) (fun H2 f => rd_sq (rd_same (off_sub _ _) (rd_same f.keep hq))) ?_⟩⟩
      rintro i x H2 H3 d S fr ⟨rfl, hx⟩ hd hs _
      obtain ⟨y, e1, e2⟩ := daAll_get ha hd
      rw [hx] at e1
      cases e1
      exact ⟨same_refl _, e2.walk fr hs⟩
  | tuple es =>
    cases h4
    cases q1 with
    | tup hq ha =>
      refine ⟨_, _, rfl, .inr ⟨seqT (off_sub _ _) hq, post _ H1 _ _ r1 f1 (by rw [← daAll_len ha]; exact walk_tup) (fun H2 f => seqT (off_sub _ _) (seqT f.keep hq)) ?_⟩⟩
      rintro i x H2 H3 d S fr ⟨rfl, hx⟩ hd hs _
      obtain ⟨y, e1, e2⟩ := daAll_get ha hd
      rw [hx] at e1
      cases e1
      exact ⟨same_refl _, e2.walk fr hs⟩
  | none => cases h4
  | bool _ => cases h4
  | int _ => cases h4
  | str _ => cases h4
  | dict _ => cases h4
/-- lo, lo + 1, .. below hi -/
def rngL (lo hi : Int) : List Int := (List.range (hi - lo).toNat).map fun (k : Nat) => lo + (k : Int)
def rngD (as : List PyData) : Option (List PyData) :=
  match as with
  | [.int j] => if -(2 ^ 62) ≤ j ∧ j < 2 ^ 62 then some ((rngL 0 j).map .int) else none
  | _ => none
def rngD2 (as : List PyData) : Option (List PyData) :=
  match as with
  | [.int i, .int j] => if -(2 ^ 62) ≤ i ∧ i < 2 ^ 62 ∧ -(2 ^ 62) ≤ j ∧ j < 2 ^ 62 then some ((rngL i j).map .int) else none
  | _ => none
def argI (fo : List PyData → Option (List PyData)) (fa : M (List R)) : M (List PyData) := M.bind fa fun rs => M.bind (lift (dds rs)) fun ds => lift (fo ds)
theorem rng_len (lo hi : Int) : ((rngL lo hi).map PyData.int).length = (hi - lo).toNat := by simp [rngL]
theorem rng_get {lo hi : Int} {i : Nat} {d : PyData} (h : ((rngL lo hi).map PyData.int)[i]? = some d) : d = .int (lo + i) := by
  unfold rngL at h
  rw [List.getElem?_map, List.getElem?_map] at h
  obtain ⟨x, h1, h2⟩ := Option.map_eq_some_iff.mp h
  obtain ⟨y, h3, h4⟩ := Option.map_eq_some_iff.mp h1
  obtain ⟨h5, h6⟩ := List.getElem?_eq_some_iff.mp h3
  rw [List.getElem_range] at h6
  subst h6 h4 h2
  rfl
theorem OkI.range1 {t : TA} {fa : M (List R)} (o : OkA K E t fa) : OkI K E (iRng1 t) (argI rngD fa) := by
  refine ⟨?_⟩
  intro B σ H env l rs rp h R post
  refine o.seq rp h post.exn fun a e v H1 h1 r1 f1 q1 => ?_
  obtain ⟨ds, h2, h3⟩ := lift_step h1
  obtain ⟨out, h4, h5⟩ := lift_some h3
  subst h5
  have da := dds_ok q1 h2
  unfold rngD at h4
  split at h4
  · split at h4
    · rename_i j hj
      cases h4
      cases da with
      | cons d1 t1 =>
        cases t1
        cases d1
        refine ⟨j, rfl, hj.1, hj.2, post _ H1 _ _ r1 f1 (by rw [rng_len, show j - 0 = j by omega]; exact walk_range) (fun _ _ => trivial) ?_⟩
        rintro i x H2 H3 d S fr ⟨rfl, rfl⟩ hd hs _
        rw [rng_get hd]
        exact ⟨same_refl _, .int _⟩
    · cases h4
  · cases h4
theorem OkI.range2 {t : TA} {fa : M (List R)} (o : OkA K E t fa) : OkI K E (iRng2 t) (argI rngD2 fa) := by
  refine ⟨?_⟩
  intro B σ H env l rs rp h R post
  refine o.seq rp h post.exn fun a e v H1 h1 r1 f1 q1 => ?_
  obtain ⟨ds, h2, h3⟩ := lift_step h1
  obtain ⟨out, h4, h5⟩ := lift_some h3
  subst h5
  have da := dds_ok q1 h2
  unfold rngD2 at h4
  split at h4
  · split at h4
    · rename_i i0 j0 hj
      cases h4
      cases da with
      | cons d1 t1 =>
        cases t1 with
        | cons d2 t2 =>
          cases t2
          cases d1
          cases d2
          refine ⟨_, _, rfl, hj, post _ H1 _ _ r1 f1 (by rw [rng_len]; exact walk_range) (fun _ _ => trivial) ?_⟩
          rintro i x H2 H3 d S fr ⟨rfl, rfl⟩ hd hs _
          rw [rng_get hd]
          exact ⟨same_refl _, .int _⟩
    · cases h4
  · cases h4
/-- pairs -/
def pairUp (a b : List PyData) : List PyData := List.zipWith (fun x y => .tuple [x, y]) a b
theorem pair_get {a b : List PyData} {i : Nat} {d : PyData} (h : (pairUp a b)[i]? = some d) : ∃ x y, a[i]? = some x ∧ b[i]? = some y ∧ d = .tuple [x, y] := by
  unfold pairUp at h
  rw [List.getElem?_zipWith] at h
  cases q : a[i]? with
  | none => rw [q] at h; cases h
  | some x =>
    cases q2 : b[i]? with
    | none => rw [q, q2] at h; cases h
    | some y => rw [q, q2] at h; cases h; exact ⟨x, y, rfl, rfl, rfl⟩
theorem pair_len (a b : List PyData) : (pairUp a b).length = min a.length b.length := List.length_zipWith ..
/-- a new pair of two data -/
theorem pair_da {B S : Addr → Prop} {l : List Addr} {H1 H2 H3 : Hp} {T : Addr} {u v : V} {x y : PyData} (hS : ∀ b, S b → ∃ o, H2 b = some o ∧ NT o) (hT : H2 T = none) (e : H3 = upd H2 T (.tup [u, v])) (hu : Da K (off S H2) u x) (hv : Da K (off S H2) v y) :
    Same H2 H3 ∧ Da K (off S H3) (.ref T) (.tuple [x, y]) := by
  subst e
  exact ⟨same_new hT _, (new_dp hS hT (.cons hu (.cons hv .nil))).2⟩
def zipD (as : List PyData) : Option (List PyData) :=
  match as with
  | [.list a, .list b] => some (pairUp a b)
  | [.tuple a, .tuple b] => some (pairUp a b)
  | _ => none
theorem OkI.zipA {t : TA} {fa : M (List R)} (o : OkA K E t fa) : OkI K E (RZ.iZipA K t) (argI zipD fa) := by
  refine ⟨?_⟩
  intro B σ H env l rs rp h R post
  refine o.seq rp h post.exn fun a e v H1 h1 r1 f1 q1 => ?_
  obtain ⟨ds, h2, h3⟩ := lift_step h1
  obtain ⟨out, h4, h5⟩ := lift_some h3
  subst h5
  have da := dds_ok q1 h2
  unfold zipD at h4
  split at h4
  · cases h4
    cases da with
    | cons d1 t1 =>
      cases t1 with
      | cons d2 t2 =>
        cases t2
        cases d1 with
        | lst qa ha =>
          cases d2 with
          | lst qb hb =>
            refine ⟨_, _, _, _, rfl, .inl ⟨rd_sq (rd_same (off_sub _ _) qa), rd_sq (rd_same (off_sub _ _) qb), post _ H1 _ _ r1 f1 (walk_zip (by rw [pair_len, daAll_len ha, daAll_len hb])) (fun H2 f => ⟨rd_sq (rd_same (off_sub _ _) (rd_same f.keep qa)), rd_sq (rd_same (off_sub _ _) (rd_same f.keep qb))⟩) ?_⟩⟩
            rintro i x H2 H3 d S fr ⟨T, u, w, rfl, hT, e3, e4, e5⟩ hd hs hS
            obtain ⟨x1, y1, g1, g2, rfl⟩ := pair_get hd
            obtain ⟨u', k1, k2⟩ := daAll_get ha g1
            obtain ⟨w', k3, k4⟩ := daAll_get hb g2
            cases k1.symm.trans e4
            cases k3.symm.trans e5
            exact pair_da (B := B) (l := l) (H1 := H1) hS hT e3 (k2.walk fr hs) (k4.walk fr hs)
  · cases h4
    cases da with
    | cons d1 t1 =>
      cases t1 with
      | cons d2 t2 =>
        cases t2
        cases d1 with
        | tup qa ha =>
          cases d2 with
          | tup qb hb =>
            refine ⟨_, _, _, _, rfl, .inr ⟨seqT (off_sub _ _) qa, seqT (off_sub _ _) qb, post _ H1 _ _ r1 f1 (walk_zipT (by rw [pair_len, daAll_len ha, daAll_len hb])) (fun H2 f => ⟨seqT (off_sub _ _) (seqT f.keep qa), seqT (off_sub _ _) (seqT f.keep qb)⟩) ?_⟩⟩
            rintro i x H2 H3 d S fr ⟨T, u, w, rfl, hT, e3, e4, e5⟩ hd hs hS
            obtain ⟨x1, y1, g1, g2, rfl⟩ := pair_get hd
            obtain ⟨u', k1, k2⟩ := daAll_get ha g1
            obtain ⟨w', k3, k4⟩ := daAll_get hb g2
            cases k1.symm.trans e4
            cases k3.symm.trans e5
            exact pair_da (B := B) (l := l) (H1 := H1) hS hT e3 (k2.walk fr hs) (k4.walk fr hs)
  · cases h4
theorem daAll1 {G : Hp} {vs : List V} {d : PyData} (h : DaAll K G vs [d]) : ∃ v, vs = [v] ∧ Da K G v d := by
  cases h with | cons a t => cases t; exact ⟨_, rfl, a⟩
def enumL (k : Int) (ds : List PyData) : List PyData := ds.zipIdx.map fun p => .tuple [.int (k + (p.2 : Nat)), p.1]
theorem enum_len (k : Int) (ds : List PyData) : (enumL k ds).length = ds.length := by simp [enumL]
theorem enum_get {k : Int} {ds : List PyData} {i : Nat} {d : PyData} (h : (enumL k ds)[i]? = some d) : ∃ x, ds[i]? = some x ∧ d = .tuple [.int (k + (i : Nat)), x] := by
  unfold enumL at h
  rw [List.getElem?_map, List.getElem?_zipIdx] at h
  cases q : ds[i]? with
  | none => rw [q] at h; cases h
  | some x => rw [q] at h; simp at h; exact ⟨x, rfl, h.symm⟩
def enumD (as : List PyData) : Option (List PyData) :=
  match as with
  | [a] => (seqD a).map (enumL 0)
  | _ => none
theorem OkI.enum {t : TA} {fa : M (List R)} (o : OkA K E t fa) : OkI K E (iEnW K t) (argI enumD fa) := by
  refine ⟨?_⟩
  intro B σ H env l rs rp h R post
  refine o.seq rp h post.exn fun a e v H1 h1 r1 f1 q1 => ?_
  obtain ⟨ds, h2, h3⟩ := lift_step h1
  obtain ⟨out, h4, h5⟩ := lift_some h3
  subst h5
  have da := dds_ok q1 h2
  unfold enumD at h4
  split at h4
  · rename_i a0
    obtain ⟨es, h6, h7⟩ := Option.map_eq_some_iff.mp h4
    subst h7
    obtain ⟨v0, rfl, d1⟩ := daAll1 da
    · cases a0 with
      | list es' =>
        cases h6
        cases d1 with
        | lst qa ha =>
          refine ⟨_, rfl, _, .inl ⟨rd_sq (rd_same (off_sub _ _) qa), post _ H1 _ _ r1 f1 (by rw [enum_len, ← daAll_len ha]; exact walk_itW) (fun H2 f => rd_sq (rd_same (off_sub _ _) (rd_same f.keep qa))) ?_⟩⟩
          rintro i x H2 H3 d S fr ⟨T, u, w, rfl, hT, e3, e4, e5⟩ hd hs hS
          obtain ⟨x1, g1, rfl⟩ := enum_get hd
          obtain ⟨w', k3, k4⟩ := daAll_get ha g1
          cases k3.symm.trans e5
          cases e4
          exact pair_da (B := B) (l := l) (H1 := H1) hS hT e3 (.int _) (k4.walk fr hs)
      | tuple es' =>
        cases h6
        cases d1 with
        | tup qa ha =>
          refine ⟨_, rfl, _, .inr ⟨seqT (off_sub _ _) qa, post _ H1 _ _ r1 f1 (by rw [enum_len, ← daAll_len ha]; exact walk_itW) (fun H2 f => seqT (off_sub _ _) (seqT f.keep qa)) ?_⟩⟩
          rintro i x H2 H3 d S fr ⟨T, u, w, rfl, hT, e3, e4, e5⟩ hd hs hS
          obtain ⟨x1, g1, rfl⟩ := enum_get hd
          obtain ⟨w', k3, k4⟩ := daAll_get ha g1
          cases k3.symm.trans e5
          cases e4
          exact pair_da (B := B) (l := l) (H1 := H1) hS hT e3 (.int _) (k4.walk fr hs)
      | none => cases h6
      | bool _ => cases h6
      | int _ => cases h6
      | str _ => cases h6
      | dict _ => cases h6
  · cases h4
end
end Ov

set_option Elab.async false
set_option linter.all false
set_option maxRecDepth 100000
set_option maxHeartbeats 4000000
namespace Ov
open PySem L2
/-! a list that a slot owns, changed by its methods -/
section
variable {K : PySem.W.Frag} {E : XK} {bx : Bool}
theorem set_same {α : Type} {σ : List α} {i : Nat} {s : α} (h : σ[i]? = some s) : σ.set i s = σ := by
  apply List.ext_getElem?
  intro j
  by_cases z : i = j
  · subst z; rw [List.getElem?_set_self (List.getElem?_eq_some_iff.mp h).1, h]
  · rw [List.getElem?_set_ne z]
/-- the list of slot i, and any other in its place -/
theorem Rep.mut2 {B : Addr → Prop} {σ : St} {H : Hp} {env : En} {l : List Addr} {i : Nat} {ds : List PyData} (r : Rep K B σ H env l) (hx : env[i]? = some (some (.own (dats ds)))) :
    ∃ p vs, σ[i]? = some (some (.ref p)) ∧ H p = some (.lst vs) ∧ p ∈ l ∧ DaAll K (off (un B l) H) vs ds ∧ ∀ {H' : Hp} {B' : Addr → Prop} {vs' : List V} {ds' : List PyData}, (∀ q ∈ l, q ≠ p → H' q = H q) → H' p = some (.lst vs') → Same (off (un B l) H) (off (un B' l) H') →
      DaAll K (off (un B' l) H') vs' ds' → (∀ b ∈ l, ¬ B' b) → (∀ b, B' b → ∃ o, H' b = some o ∧ NT o) → Rep K B' σ H' (env.set i (some (.own (dats ds')))) l := by
  obtain ⟨s, a, lx, ly, q1, q2, ⟨v, rfl, p, vs, b, rfl, rfl, q6, q7⟩, q5⟩ := r.rp.focus hx
  obtain ⟨rfl, q8⟩ := rp1s_dats q7
  have hp : p ∈ l := by rw [q2]; exact List.mem_append_right _ (List.mem_append_left _ (List.mem_cons_self ..))
  refine ⟨p, vs, q1, q6, hp, q8, fun {H' B' vs' ds'} k1 k2 sub h' o' t' => ?_⟩
  have nd := r.nd
  rw [q2] at nd
  obtain ⟨n1, n2, n3⟩ := List.nodup_append.mp nd
  obtain ⟨n4, n5, n6⟩ := List.nodup_append.mp n2
  refine ⟨?_, r.nd, o', t'⟩
  have := q5 (H' := H') (G' := off (un B' l) H') (s' := some (.ref p)) (e' := some (.own (dats ds'))) (a' := [p]) sub
    (fun q z => k1 q (by rw [q2]; exact List.mem_append_left _ z) fun e => n3 q z p (List.mem_append_left _ (List.mem_cons_self ..)) e) (fun q z => k1 q (by rw [q2]; exact List.mem_append_right _ (List.mem_append_right _ z)) fun e => n6 p (List.mem_cons_self ..) q z e.symm)
    ⟨_, rfl, p, vs', [], rfl, rfl, k2, rp1s_of h'⟩
  rw [set_same q1] at this
  rw [q2] at this ⊢
  exact this
theorem Rep.mut {B : Addr → Prop} {σ : St} {H : Hp} {env : En} {l : List Addr} {i : Nat} {ds : List PyData} (r : Rep K B σ H env l) (hx : env[i]? = some (some (.own (dats ds)))) :
    ∃ p vs, σ[i]? = some (some (.ref p)) ∧ H p = some (.lst vs) ∧ p ∈ l ∧ DaAll K (off (un B l) H) vs ds ∧ ∀ {vs' : List V} {ds' : List PyData}, DaAll K (off (un B l) H) vs' ds' → Rep K B σ (upd H p (.lst vs')) (env.set i (some (.own (dats ds')))) l := by
  obtain ⟨p, vs, q1, q6, hp, q8, q9⟩ := r.mut2 hx
  refine ⟨p, vs, q1, q6, hp, q8, fun {vs' ds'} h' => ?_⟩
  have sub : Same (off (un B l) H) (off (un B l) (upd H p (.lst vs'))) := off_mono (fun b z n => absurd z n) fun b o n e => by rw [upd_ne (fun z => n (.inr (by rw [z]; exact hp)))]; exact e
  refine q9 (fun q _ n => upd_ne n) upd_same sub (DaAll.same sub ds' h') r.out fun b z => ?_
  obtain ⟨o, e, n⟩ := r.tb b z
  exact ⟨o, by rw [upd_ne (fun y => r.out p hp (by rw [← y]; exact z))]; exact e, n⟩
theorem fr_upd {l : List Addr} {H : Hp} {p : Addr} {o : HO} (hp : p ∈ l) : Fr l H (upd H p o) := fun b u n h => by rw [upd_ne (fun z => n (by rw [z]; exact hp))]; exact h
def ownD (i : Nat) : M (List PyData) := fun env =>
  match env[i]? with
  | some (some (.own xs)) => (itds xs).map fun ds => .ok ds env
  | _ => none
theorem ownD_step {α : Type} {i : Nat} {g : List PyData → M α} {env : En} {rs : Rs α} (h : (M.bind (ownD i) g) env = some rs) : ∃ ds, env[i]? = some (some (.own (dats ds))) ∧ g ds env = some rs := by
  have key : ∀ z, ownD i env = some z → ∃ ds, env[i]? = some (some (.own (dats ds))) ∧ z = .ok ds env := fun z hz => by
    unfold ownD at hz
    split at hz
    · rename_i xs hx
      obtain ⟨ds, e1, e2⟩ := Option.map_eq_some_iff.mp hz
      exact ⟨ds, by rw [hx, itds_eq e1], e2.symm⟩
    · cases hz
  rcases bind_some h with ⟨a, e, h1, h2⟩ | ⟨C, f, d, h1, h2⟩
  · obtain ⟨ds, e1, e2⟩ := key _ h1
    cases e2
    exact ⟨_, e1, h2⟩
  · obtain ⟨ds, e1, e2⟩ := key _ h1
    cases e2
def setOwn (i : Nat) (ds : List PyData) : M Unit := fun env => some (.ok () (env.set i (some (.own (dats ds)))))
theorem setOwn_step {α : Type} {i : Nat} {ds : List PyData} {g : Unit → M α} {env : En} {rs : Rs α} (h : (M.bind (setOwn i ds) g) env = some rs) : g () (env.set i (some (.own (dats ds)))) = some rs := h
def MtOk (K : PySem.W.Frag) (r : V → List V → Hp → VK → Prop) (fo : List PyData → List PyData → Option (List PyData × PyData)) : Prop := ∀ {S : Addr → Prop} {H : Hp} {p : Addr} {vs xs : List V} {ds as ds' : List PyData} {d : PyData},
  H p = some (.lst vs) → DaAll K (off S H) vs ds → DaAll K (off S H) xs as → fo ds as = some (ds', d) → ∀ {Q : VK}, (∀ v vs', DaAll K (off S H) vs' ds' → Da K (off S H) v d → Q v (upd H p (.lst vs'))) → r (.ref p) xs H Q
def mthE (i : Nat) (fo : List PyData → List PyData → Option (List PyData × PyData)) (fa : M (List R)) : M R := M.bind (ownD i) fun _ => M.bind fa fun rs => M.bind (lift (dds rs)) fun as => M.bind (ownD i) fun ds => M.bind (lift (fo ds as)) fun r => M.bind (setOwn i r.1) fun _ => M.pure (.dat r.2)
theorem OkE.mth {i : Nat} {r : V → List V → Hp → VK → Prop} {fo : List PyData → List PyData → Option (List PyData × PyData)} {t : TA} {fa : M (List R)} (o : MtOk K r fo) (oa : OkA K E t fa) : OkE K E (tBM K "list" r (tVar i) t) (mthE i fo fa) := by
  refine ⟨?_⟩
  intro B σ H env l rs rp h Q post
  obtain ⟨ds0, hx0, h0⟩ := ownD_step h
  obtain ⟨p, vs0, q1, q2, q3, q4, _⟩ := rp.mut hx0
  refine ⟨.ref p, q1, .inl ⟨rfl, _, SqL.of q2⟩, ?_⟩
  refine oa.seq rp h0 post.exn fun a e vs H1 h1 r1 f1 w1 => ?_
  obtain ⟨as, h2, h3⟩ := lift_step h1
  obtain ⟨ds, hx, h4⟩ := ownD_step h3
  obtain ⟨⟨ds', d⟩, h5, h6⟩ := lift_step h4
  have h7 := setOwn_step h6
  cases h7
  obtain ⟨p', vs1, s1, s2, s3, s4, s5⟩ := r1.mut hx
  rw [q1] at s1
  cases s1
  refine o s2 s4 (dds_ok w1 h2) h5 fun v vs' d1 d2 => post v _ (s5 d1) (f1.trans (fr_upd s3)) ?_
  refine Da.same (off_mono (fun b z n => absurd z n) fun b o n e => ?_) _ d2
  rw [upd_ne (fun z => n (.inr (by rw [z]; exact s3)))]
  exact e
/-- the same with no argument -/
def mthE0 (i : Nat) (fo : List PyData → List PyData → Option (List PyData × PyData)) : M R := M.bind (ownD i) fun ds => M.bind (lift (fo ds [])) fun r => M.bind (setOwn i r.1) fun _ => M.pure (.dat r.2)
theorem OkE.mth0 {i : Nat} {r : V → List V → Hp → VK → Prop} {fo : List PyData → List PyData → Option (List PyData × PyData)} (o : MtOk K r fo) : OkE K E (tBM0 K "list" r (tVar i)) (mthE0 i fo) := by
  refine ⟨?_⟩
  intro B σ H env l rs rp h Q post
  obtain ⟨ds, hx, h4⟩ := ownD_step h
  obtain ⟨⟨ds', d⟩, h5, h6⟩ := lift_step h4
  have h7 := setOwn_step h6
  cases h7
  obtain ⟨p, vs, s1, s2, s3, s4, s5⟩ := rp.mut hx
  refine ⟨.ref p, s1, .inl ⟨rfl, _, SqL.of s2⟩, ?_⟩
  refine o s2 s4 .nil h5 fun v vs' d1 d2 => post v _ (s5 d1) (fr_upd s3) ?_
  refine Da.same (off_mono (fun b z n => absurd z n) fun b o n e => ?_) _ d2
  rw [upd_ne (fun z => n (.inr (by rw [z]; exact s3)))]
  exact e
def appD (ds as : List PyData) : Option (List PyData × PyData) :=
  match as with
  | [a] => (sz (ds.length + 1)).map fun _ => (ds ++ [a], .none)
  | _ => none
theorem sz_lt {n : Nat} {u : Unit} (h : sz (n + 1) = some u) : n < sizeLine := sz_ok h
theorem ok_app : MtOk K rAppend appD := by
  intro S H p vs xs ds as ds' d hp hd ha e Q q
  unfold appD at e
  split at e
  · obtain ⟨u, e1, e2⟩ := Option.map_eq_some_iff.mp e
    cases e2
    obtain ⟨v, rfl, h1⟩ := daAll1 ha
    exact ⟨p, vs, v, rfl, rfl, hp, by rw [daAll_len hd]; exact sz_lt e1, q _ _ (daAll_append hd (.cons h1 .nil)) .non⟩
  · cases e
def insD (ds as : List PyData) : Option (List PyData × PyData) :=
  match as with
  | [.int i, a] => if 0 ≤ i ∧ i < 2 ^ 62 then (sz (ds.length + 1)).map fun _ => (ds.take i.toNat ++ [a] ++ ds.drop i.toNat, .none) else none
  | _ => none
theorem ok_ins : MtOk K (fun x vs H Q => ∃ (l : Addr) (xs : List V) (i : Int) (y : V), x = .ref l ∧ vs = [.int i, y] ∧ H l = some (.lst xs) ∧ xs.length < sizeLine ∧ 0 ≤ i ∧ i < 2 ^ 63 ∧ Q .non (upd H l (.lst (xs.take i.toNat ++ [y] ++ xs.drop i.toNat)))) insD := by
  intro S H p vs xs ds as ds' d hp hd ha e Q q
  unfold insD at e
  split at e
  · split at e
    · rename_i hi
      obtain ⟨u, e1, e2⟩ := Option.map_eq_some_iff.mp e
      cases e2
      cases ha with
      | cons h1 t1 =>
        obtain ⟨v, rfl, h2⟩ := daAll1 t1
        cases h1
        exact ⟨p, vs, _, v, rfl, rfl, hp, by rw [daAll_len hd]; exact sz_lt e1, hi.1, by omega, q _ _ (daAll_append (daAll_append (daAll_take hd _) (.cons h2 .nil)) (daAll_drop hd _)) .non⟩
    · cases e
  · cases e
def popD (ds as : List PyData) : Option (List PyData × PyData) :=
  match as with
  | [.int i] => if 0 ≤ i ∧ i < 2 ^ 62 then ds[i.toNat]?.map fun d => (ds.eraseIdx i.toNat, d) else none
  | _ => none
theorem ok_pop : MtOk K rPopAt popD := by
  intro S H p vs xs ds as ds' d hp hd ha e Q q
  unfold popD at e
  split at e
  · split at e
    · rename_i i hi
      obtain ⟨x, e1, e2⟩ := Option.map_eq_some_iff.mp e
      cases e2
      obtain ⟨v, rfl, h2⟩ := daAll1 ha
      cases h2
      obtain ⟨y, e3, e4⟩ := daAll_get hd e1
      have lt := (List.getElem?_eq_some_iff.mp e3).1
      exact ⟨p, vs, i, i.toNat, y, rfl, rfl, hp, by omega, by omega, by rw [seqIndex_of hi.1 (by omega)], e3, q _ _ (daAll_erase hd _) e4⟩
    · cases e
  · cases e
/-! x[i] = e, the list of a slot -/
def setIx (i : Nat) (fe fk : M R) : M Fl := M.bind fe fun r => M.bind (lift (asD r)) fun d => M.bind (ownD i) fun _ => M.bind fk fun k => M.bind (lift (asI k)) fun k => M.bind (ownD i) fun ds => M.bind (lift (ixN ds.length k)) fun j => M.bind (setOwn i (ds.set j d)) fun _ => M.pure .nx
theorem OkS.setIx {i : Nat} {te tk : TE} {fe fk : M R} (oe : OkE K E te fe) (ok : OkE K E tk fk) : OkS K E bx (tAsg te (gSub (tVar i) tk rSetL)) (Ov.setIx i fe fk) := by
  refine ⟨?_⟩
  intro B σ H env l rs rp h D post
  refine oe.seq rp h post.exn fun a e v H1 h1 r1 f1 q1 => ?_
  obtain ⟨d, h2, h3⟩ := lift_step h1
  obtain ⟨ds0, hx0, h4⟩ := ownD_step h3
  obtain ⟨p, vs0, s1, s2, s3, s4, _⟩ := r1.mut hx0
  refine ⟨.ref p, s1, ?_⟩
  refine ok.seq r1 h4 (exn_later post.exn f1) fun k e2 v2 H2 h5 r2 f2 q2 => ?_
  obtain ⟨k', h6, h7⟩ := lift_step h5
  obtain ⟨ds, hx, h8⟩ := ownD_step h7
  obtain ⟨j, h9, ha⟩ := lift_step h8
  have hb := setOwn_step ha
  cases hb
  obtain ⟨p', vs, t1, t2, t3, t4, t5⟩ := r2.mut hx
  rw [s1] at t1
  cases t1
  rw [asI_some h6] at q2
  cases q2
  rw [asD_some h2] at q1
  refine ⟨p, vs, k', j, rfl, rfl, t2, by rw [daAll_len t4]; exact h9, ?_⟩
  exact post σ _ l (t5 (daAll_set (Da.same f2.keep d q1) t4 j)) (Fr2.of ((f1.trans f2).trans (fr_upd t3))) fun _ => rfl
/-! new lists of one's own -/
theorem new_own {B : Addr → Prop} {σ : St} {H1 : Hp} {env : En} {l : List Addr} {p : Addr} {vs : List V} {ds : List PyData} (r : Rep K B σ H1 env l) (hp : H1 p = none) (da : DaAll K (off (un B l) H1) vs ds) :
    Rep K (un B [p]) σ (upd H1 p (.lst vs)) env l ∧ RpW K (upd H1 p (.lst vs)) (off (un (un B [p]) l) (upd H1 p (.lst vs))) (.ref p) (.own (dats ds)) [p] := by
  refine ⟨r.grow (same_new hp _) (fun _ z => .inl z) (fun b z => z.imp id fun z => by rw [List.mem_singleton.mp z]; exact hp) fun b z => ?_, p, vs, [], rfl, rfl, upd_same, rp1s_of (DaAll.same ?_ ds da)⟩
  · by_cases e : b = p
    · subst e; exact ⟨_, upd_same, trivial⟩
    · rw [upd_ne e]; exact r.tb b (z.resolve_right fun z => e (List.mem_singleton.mp z))
  · refine off_mono (fun b z n => ?_) fun b o n e => by rw [upd_ne (ne_of_none e hp)]; exact e
    rcases z with (z | z) | z
    · exact absurd (.inl z) n
    · rw [List.mem_singleton.mp z]; exact hp
    · exact absurd (.inr z) n
theorem fresh_back {B : Addr → Prop} {σ : St} {H H1 : Hp} {env : En} {l : List Addr} {p : Addr} (r : Rep K B σ H1 env l) (f : Fr l H H1) (hp : H1 p = none) : ∀ b ∈ [p], H b = none := fun b z => by
  rw [List.mem_singleton.mp z]
  cases q : H p with
  | none => rfl
  | some o =>
    rw [f p o (fun z => r.fresh hp (.inr z)) q] at hp
    cases hp
def lstW (fa : M (List R)) : M Wv := M.bind fa fun a => M.bind (lift (dds a)) fun ds => M.bind (lift (sz ds.length)) fun _ => M.pure (.own (dats ds))
theorem OkW.lst {t : TA} {fa : M (List R)} (oa : OkA K E t fa) : OkW K E (tLst t) (lstW fa) := by
  refine ⟨?_⟩
  intro B σ H env l rs rp h Q post
  refine oa.seq rp h post.exn fun a e vs H1 h1 r1 f1 q1 => ?_
  obtain ⟨ds, e1, h2⟩ := lift_step h1
  obtain ⟨u, e2, h3⟩ := lift_step h2
  cases h3
  have dp := dds_ok q1 e1
  refine ⟨by rw [daAll_len dp]; exact sz_ok e2, fun p hp => ?_⟩
  obtain ⟨n1, n2⟩ := new_own r1 hp dp
  exact post _ _ [p] n1 (f1.trans (Fr.of (same_new hp _))) n2 (List.nodup_cons.mpr ⟨by simp, List.nodup_nil⟩) (fresh_back r1 f1 hp)
def listW (fa : M (List R)) : M Wv := M.bind fa fun a => M.bind (vws a) fun ds => M.bind (lift (match ds with | [a] => seqD a | _ => none)) fun es => M.pure (.own (dats es))
theorem OkW.list {t : TA} {fa : M (List R)} (oa : OkA K E t fa) : OkW K E (tCB (fun xs H Q => ∃ p ys, xs = [.ref p] ∧ (SqL K H p ys ∨ SqT K H p ys) ∧ ∀ l, H l = none → Q (.ref l) (upd H l (.lst ys))) t) (listW fa) := by
  refine ⟨?_⟩
  intro B σ H env l rs rp h Q post
  refine oa.seq rp h post.exn fun a e vs H1 h1 r1 f1 q1 => ?_
  obtain ⟨ds, h2, w⟩ := vws_ok r1 q1 h1
  obtain ⟨es, h5, h6⟩ := lift_step h2
  cases h6
  split at h5
  · obtain ⟨x, rfl, wx⟩ := vwAll1 w
    obtain ⟨p, ys, rfl, hq, da⟩ := vw_seq wx h5
    refine ⟨p, ys, rfl, hq, fun p hp => ?_⟩
    obtain ⟨n1, n2⟩ := new_own r1 hp da
    exact post _ _ [p] n1 (f1.trans (Fr.of (same_new hp _))) n2 (List.nodup_cons.mpr ⟨by simp, List.nodup_nil⟩) (fresh_back r1 f1 hp)
  · cases h5
end
/-! what a def keeps -/
/-- data in, a value out -/
def spA (K : PySem.W.Frag) (F : List PyData → Option Wv) : Sp := fun vs H Q _ => ∃ B ds w, DaAll K (off B H) vs ds ∧ (∀ b, B b → ∃ o, H b = some o ∧ NT o) ∧ F ds = some w ∧
  ∀ v H' lw, Same H H' → RpW K H' (off (un B lw) H') v w lw → lw.Nodup → (∀ b ∈ lw, H b = none) → Q v H'
/-- the first argument is a list that may be changed -/
def spB (K : PySem.W.Frag) (F : List PyData → List PyData → Option (Wv × List PyData)) : Sp := fun vs H Q _ => ∃ B p bv bs vs' ds w bs', vs = .ref p :: vs' ∧ H p = some (.lst bv) ∧ ¬ B p ∧ DaAll K (off (un B [p]) H) bv bs ∧ DaAll K (off (un B [p]) H) vs' ds ∧
  (∀ b, B b → ∃ o, H b = some o ∧ NT o) ∧ F bs ds = some (w, bs') ∧
  ∀ v H' lw bv', Fr [p] H H' → H' p = some (.lst bv') → DaAll K (off (un (un B lw) [p]) H') bv' bs' → RpW K H' (off (un (un B lw) [p]) H') v w lw → lw.Nodup → (∀ b ∈ lw, H b = none) → Q v H'
def env0 (ds : List PyData) (n : Nat) : En := ds.map (fun d => some (.dat d)) ++ List.replicate n none
def runA (np n : Nat) (fb : M Fl) (ds : List PyData) : Option Wv := if ds.length = np then
  match fb (env0 ds (n - ds.length)) with
  | some (.ok .nx _) => some (.dat .none)
  | some (.ok (.rt w) _) => some w
  | _ => none else none
def runB (np n : Nat) (fb : M Fl) (bs ds : List PyData) : Option (Wv × List PyData) := if ds.length + 1 = np then
  match fb (some (.own (dats bs)) :: env0 ds (n - (ds.length + 1))) with
  | some (.ok (.rt w) (some (.own xs) :: _)) => (itds xs).map fun bs' => (w, bs')
  | _ => none else none
section
variable {K : PySem.W.Frag} {G H : Hp}
theorem rpe_none : ∀ n : Nat, RpE K H G (List.replicate n none) (List.replicate n none) []
  | 0 => rfl
  | n + 1 => ⟨[], [], rfl, rfl, rpe_none n⟩
theorem rpe_args : ∀ {vs : List V} {ds : List PyData} (n : Nat), DaAll K G vs ds → RpE K H G (vs.map some ++ List.replicate n none) (env0 ds n) []
  | _, _, n, .nil => rpe_none n
  | _, _, n, .cons h t => ⟨[], [], rfl, ⟨_, rfl, rfl, h⟩, rpe_args n t⟩
theorem finA {t : TS} {fb : M Fl} {N : List Str} {vs : List V} {Q : VK} {E : XK} {np : Nat} (o : OkS K L2.E0 false t fb) (h : spA K (runA np N.length fb) vs H Q E) : t { nx := fun _ H' => Q .non H', rt := Q } (L2.start N vs) H := by
  obtain ⟨B, ds, w, da, hB, hf, q⟩ := h
  have el := daAll_len da
  have rp : Rep K B (L2.start N vs) H (env0 ds (N.length - ds.length)) [] := by
    refine ⟨?_, List.nodup_nil, fun _ z => (by cases z), hB⟩
    rw [un_nil]
    unfold L2.start
    rw [el]
    exact rpe_args _ da
  unfold runA at hf
  split at hf
  case isFalse => cases hf
  cases hz : fb (env0 ds (N.length - ds.length)) with
  | none => rw [hz] at hf; cases hf
  | some z =>
    rw [hz] at hf
    cases z with
    | ex C f d => cases hf
    | ok fl e =>
      cases fl with
      | bk => cases hf
      | ct => cases hf
      | nx =>
        cases hf
        refine o.run rp hz fun σ' H' l' r' f' _ => q .non H' [] (fun b o e => f'.fr b o (fun z => by cases z) e) ⟨rfl, .non⟩ List.nodup_nil fun _ z => by cases z
      | rt w' =>
        cases hf
        refine o.run rp hz fun v σ' H' l' lw r' f' _ rw' nd hl => q v H' lw (fun b o e => f'.fr b o (fun z => by cases z) e) ?_ nd fun b z => ?_
        · exact rw'.mv (off_mono (fun b z n => absurd (.inl z) n) fun b o n e => e) fun _ _ => rfl
        · exact (f'.sub b (List.mem_append_right _ z)).resolve_left fun z => by cases z
theorem finB {t : TS} {fb : M Fl} {N : List Str} {vs : List V} {Q : VK} {E : XK} {np : Nat} (o : OkS K L2.E0 true t fb) (h : spB K (runB np N.length fb) vs H Q E) : t { nx := fun _ H' => Q .non H', rt := Q } (L2.start N vs) H := by
  obtain ⟨B, p, bv, bs, vs', ds, w, bs', rfl, hp, nB, db, da, hB, hf, q⟩ := h
  have el := daAll_len da
  have rp : Rep K B (L2.start N (.ref p :: vs')) H (some (.own (dats bs)) :: env0 ds (N.length - (ds.length + 1))) [p] := by
    refine ⟨?_, List.nodup_cons.mpr ⟨by simp, List.nodup_nil⟩, fun b z => by rw [List.mem_singleton.mp z]; exact nB, hB⟩
    unfold L2.start
    rw [List.map_cons, List.cons_append, List.length_cons, el]
    exact ⟨[p], [], rfl, ⟨_, rfl, p, bv, [], rfl, rfl, hp, rp1s_of db⟩, rpe_args _ da⟩
  unfold runB at hf
  split at hf
  case isFalse => cases hf
  cases hz : fb (some (.own (dats bs)) :: env0 ds (N.length - (ds.length + 1))) with
  | none => rw [hz] at hf; cases hf
  | some z =>
    rw [hz] at hf
    cases z with
    | ex C f d => cases hf
    | ok fl e =>
      cases fl with
      | bk => cases hf
      | ct => cases hf
      | nx => cases hf
      | rt w' =>
        cases e with
        | nil => cases hf
        | cons e0 er =>
          cases e0 with
          | none => cases hf
          | some w0 =>
          cases w0 with
          | dat _ => cases hf
          | exc _ _ _ => cases hf
          | dct _ => cases hf
          | own xs =>
          obtain ⟨bs2, e1, e2⟩ := Option.map_eq_some_iff.mp (show (itds xs).map (fun bs' => (w', bs')) = _ from hf)
          cases e2
          have hx : (some (Wv.own xs) :: er)[0]? = some (some (.own (dats bs'))) := by rw [itds_eq e1]; rfl
          refine o.run rp hz fun v σ' H' l' lw r' f' b0 rw' nd hl => ?_
          obtain ⟨p', vs2, s1, s2, s3, s4, _⟩ := r'.mut hx
          have s0 : σ'[0]? = some (some (.ref p)) := (b0 rfl).trans rfl
          rw [s0] at s1
          cases s1
          have sub : Same (off (un (un B lw) l') H') (off (un (un B lw) [p]) H') := off_mono (fun b z n => ?_) fun b o n e => e
          · refine q v H' lw vs2 f'.fr s2 (DaAll.same sub _ s4) (rw'.mv sub fun _ _ => rfl) nd fun b z => ?_
            exact (f'.sub b (List.mem_append_right _ z)).resolve_left fun y => (hl b z).1 (by rw [List.mem_singleton.mp y]; exact s3)
          · rcases z with z | z
            · exact absurd (.inl z) n
            · rw [List.mem_singleton.mp z] at n; exact absurd (.inr s3) n
end
theorem lenA {K : PySem.W.Frag} {np n : Nat} {fb : M Fl} {vs : List V} {H : Hp} {Q : VK} {E : XK} (h : spA K (runA np n fb) vs H Q E) : vs.length = np := by
  obtain ⟨B, ds, w, da, hB, hf, q⟩ := h
  unfold runA at hf
  split at hf
  · rw [daAll_len da]; assumption
  · cases hf
theorem lenB {K : PySem.W.Frag} {np n : Nat} {fb : M Fl} {vs : List V} {H : Hp} {Q : VK} {E : XK} (h : spB K (runB np n fb) vs H Q E) : vs.length = np := by
  obtain ⟨B, p, bv, bs, vs', ds, w, bs', rfl, hp, nB, db, da, hB, hf, q⟩ := h
  unfold runB at hf
  split at hf
  · rw [List.length_cons, daAll_len da]; assumption
  · cases hf
/-! calls -/
section
variable {K : PySem.W.Frag} {E : XK} {bx : Bool}
def callA (F : List PyData → Option Wv) (fa : M (List R)) : M Wv := M.bind fa fun rs => M.bind (lift (dds rs)) fun ds => lift (F ds)
theorem callA_ok {B : Addr → Prop} {σ : St} {H H1 : Hp} {e : En} {l : List Addr} {vs : List V} {ds : List PyData} {F : List PyData → Option Wv} {w : Wv} {Q : VK} {E' : XK} (r1 : Rep K B σ H1 e l) (f1 : Fr l H H1) (da : DaAll K (off (un B l) H1) vs ds) (hw : F ds = some w)
    (post : PostW K E B σ H l (.ok w e) Q) : spA K F vs H1 Q E' := by
  refine ⟨un B l, ds, w, da, r1.tl, hw, fun v H' lw s rw' nd fr => ?_⟩
  have hl : ∀ b ∈ lw, ¬ un B l b := fun b z => r1.fresh (fr b z)
  refine post v H' lw (r1.grow s (fun _ z => .inl z) (fun b z => z.imp id (fr b)) fun b z => ?_) (f1.trans (Fr.of s)) (rw'.mv (off_mono (fun b z n => absurd (z.elim (fun z => z.elim (fun z => .inl (.inl z)) .inr) fun z => .inl (.inr z)) n) fun b o n e => e) fun _ _ => rfl) nd fun b z => ?_
  · rcases z with z | z
    · obtain ⟨o, e, n⟩ := r1.tb b z
      exact ⟨o, s _ _ e, n⟩
    · exact rw'.trk b z
  · cases q : H b with
    | none => rfl
    | some o =>
      have := f1 b o (fun y => hl b z (.inr y)) q
      rw [fr b z] at this
      cases this
theorem OkW.call {F : List PyData → Option Wv} {E' : XK} {t : TA} {fa : M (List R)} (oa : OkA K E t fa) : OkW K E (tCall (spA K F) [] E' t) (callA F fa) := by
  refine ⟨?_⟩
  intro B σ H env l rs rp h Q post
  refine oa.seq rp h post.exn fun a e vs H1 h1 r1 f1 q1 => ?_
  obtain ⟨ds, h2, h3⟩ := lift_step h1
  obtain ⟨w, h4, h5⟩ := lift_some h3
  subst h5
  rw [List.append_nil]
  exact callA_ok r1 f1 (dds_ok q1 h2) h4 post
/-- keywords alone, in the order g -/
theorem OkW.callK {F : List PyData → Option Wv} {E' : XK} {n : Nat} {gV : List V → List V → List V} {gD : List PyData → List PyData} {t : TA} {fa : M (List R)} (hg : ∀ {G : Hp} {vs : List V} {ds : List PyData}, DaAll K G vs ds → ds.length = n → DaAll K G (gV [] vs) (gD ds)) (oa : OkA K E t fa) :
    OkW K E (L2.tCallN 0 n (spA K F) gV E' tNil t) (callA (fun ds => if ds.length = n then F (gD ds) else none) fa) := by
  refine ⟨?_⟩
  intro B σ H env l rs rp h Q post
  refine oa.seq rp h post.exn fun a e vs H1 h1 r1 f1 q1 => ?_
  obtain ⟨ds, h2, h3⟩ := lift_step h1
  obtain ⟨w, h4, h5⟩ := lift_some h3
  subst h5
  have da := dds_ok q1 h2
  simp only at h4
  split at h4
  · rename_i hn
    exact ⟨rfl, by rw [daAll_len da]; exact hn, callA_ok r1 f1 (hg da hn) h4 post⟩
  · cases h4
/-- the first argument is slot i's own list -/
def callB (i : Nat) (F : List PyData → List PyData → Option (Wv × List PyData)) (fa : M (List R)) : M Wv := M.bind (ownD i) fun _ => M.bind fa fun rs => M.bind (lift (dds rs)) fun ds => M.bind (ownD i) fun bs => M.bind (lift (F bs ds)) fun r => M.bind (setOwn i r.2) fun _ => M.pure r.1
theorem un_less {B : Addr → Prop} {l : List Addr} {p : Addr} (hp : p ∈ l) : un (fun b => un B l b ∧ b ≠ p) [p] = un B l := by
  funext b
  refine propext ⟨fun z => z.elim (fun z => z.1) fun z => ?_, fun z => ?_⟩
  · rw [List.mem_singleton.mp z]; exact .inr hp
  · by_cases e : b = p
    · exact .inr (by rw [e]; exact List.mem_cons_self ..)
    · exact .inl ⟨z, e⟩
theorem OkW.callB {i : Nat} {F : List PyData → List PyData → Option (Wv × List PyData)} {E' : XK} {t : TA} {fa : M (List R)} (oa : OkA K E t fa) : OkW K E (tCall (spB K F) [] E' (tCons (tVar i) t)) (Ov.callB i F fa) := by
  refine ⟨?_⟩
  intro B σ H env l rs rp h Q post
  obtain ⟨ds0, hx0, h0⟩ := ownD_step h
  obtain ⟨p, vs0, q1, q2, q3, q4, _⟩ := rp.mut hx0
  refine ⟨.ref p, q1, ?_⟩
  refine oa.seq rp h0 post.exn fun a e vs H1 h1 r1 f1 w1 => ?_
  obtain ⟨as, h2, h3⟩ := lift_step h1
  obtain ⟨bs, hx, h4⟩ := ownD_step h3
  obtain ⟨⟨w, bs'⟩, h5, h6⟩ := lift_step h4
  have h7 := setOwn_step h6
  cases h7
  obtain ⟨p', vs1, s1, s2, s3, s4, s5⟩ := r1.mut2 hx
  rw [q1] at s1
  cases s1
  have da := dds_ok w1 h2
  rw [List.append_nil]
  refine ⟨fun b => un B l b ∧ b ≠ p, p, vs1, bs, vs, as, w, bs', rfl, s2, fun z => z.2 rfl, by rw [un_less s3]; exact s4, by rw [un_less s3]; exact da, fun b z => r1.tl b z.1, h5, fun v H' lw bv' fr hb' db' rw' nd fw => ?_⟩
  have ew : ∀ b, un (un B lw) l b → un (un (fun b => un B l b ∧ b ≠ p) lw) [p] b := fun b z => by
    by_cases e : b = p
    · exact .inr (by rw [e]; exact List.mem_cons_self ..)
    · exact .inl (z.elim (fun z => z.imp (fun z => ⟨.inl z, e⟩) id) fun z => .inl ⟨.inr z, e⟩)
  have sb : Same (off (un (un (fun b => un B l b ∧ b ≠ p) lw) [p]) H') (off (un (un B lw) l) H') := off_mono (fun b z n => absurd (ew b z) n) fun b o n e => e
  have hl : ∀ b ∈ lw, ¬ un B l b := fun b z => r1.fresh (fw b z)
  have sub : Same (off (un B l) H1) (off (un (un B lw) l) H') := off_mono (fun b z n => z.elim (fun z => z.elim (fun z => absurd (.inl z) n) (fw b)) fun z => absurd (.inr z) n) fun b o n e => fr b o (fun z => n (by rw [List.mem_singleton.mp z]; exact .inr s3)) e
  refine post v H' lw (s5 (fun q z n => ?_) hb' sub (DaAll.same sb _ db') (fun b z y => y.elim (r1.out b z) fun y => hl b y (.inr z)) fun b z => ?_) (f1.trans fun b o n e => fr b o (fun z => n (by rw [List.mem_singleton.mp z]; exact s3)) e) (rw'.mv sb fun _ _ => rfl) nd fun b z => ?_
  · obtain ⟨us, e, _⟩ := r1.rp.trk q z
    rw [e]
    exact fr q _ (fun y => n (List.mem_singleton.mp y)) e
  · rcases z with z | z
    · obtain ⟨o, e, n⟩ := r1.tb b z
      exact ⟨o, fr b o (fun y => r1.out p s3 (by rw [← List.mem_singleton.mp y]; exact z)) e, n⟩
    · exact rw'.trk b z
  · cases q : H b with
    | none => rfl
    | some o =>
      have := f1 b o (fun y => hl b z (.inr y)) q
      rw [fw b z] at this
      cases this
end
end Ov

set_option Elab.async false
set_option linter.all false
set_option maxRecDepth 100000
set_option maxHeartbeats 4000000
namespace Ov
open PySem L2
def chk (b : Bool) : Option Unit := if b = true then some () else none
theorem chk_ok {b : Bool} {u : Unit} (h : chk b = some u) : b = true := by
  unfold chk at h
  split at h
  · assumption
  · cases h
section
variable {K : PySem.W.Frag} {E : XK} {bx : Bool}
/-! isinstance of data -/
def kitD (T : String) (d : PyData) : Option Bool := kitB (tyD d) T
def isiE (T : String) (fa : M R) : M R := M.bind fa fun r => M.bind (vw r) fun d => M.bind (lift (kitD T d)) fun b => M.pure (ofB b)
theorem OkE.isi {T : String} {ta : TE} {fa : M R} (oa : OkE K E ta fa) : OkE K E (tCB (rIsi K) (tCons ta (tCons (tC (.ty T)) tNil))) (isiE T fa) := by
  refine ⟨?_⟩
  intro B σ H env l rs rp h Q post
  refine oa.seq rp h post.exn fun a e v H1 h1 r1 f1 q1 => ?_
  obtain ⟨d, h2, w⟩ := vw_step r1 q1 h1
  obtain ⟨b, h3, h4⟩ := lift_step h2
  cases h4
  exact ⟨v, .ty T, _, _, b, rfl, .ty T, dp_ty (Da.dp d w.da), kit_ty h3, post _ H1 r1 f1 (.bl b)⟩
def isiE2 (A B : String) (fa : M R) : M R := M.bind fa fun r => M.bind (vw r) fun d => M.bind (lift (kitD A d)) fun a => M.bind (lift (kitD B d)) fun b => M.pure (ofB (a || b))
theorem OkE.isi2 {T U : String} {ta : TE} {fa : M R} (oa : OkE K E ta fa) : OkE K E (tCB (rIsiT K) (tCons ta (tCons (tTup (tCons (tC (.ty T)) (tCons (tC (.ty U)) tNil))) tNil))) (isiE2 T U fa) := by
  refine ⟨?_⟩
  intro B σ H env l rs rp h Q post
  refine oa.seq rp h post.exn fun a e v H1 h1 r1 f1 q1 => ?_
  obtain ⟨d, h2, w⟩ := vw_step r1 q1 h1
  obtain ⟨b, h3, h4⟩ := lift_step h2
  obtain ⟨b2, h5, h6⟩ := lift_step h4
  cases h6
  refine ⟨smallB rfl, fun p hp => ?_⟩
  have s1 := same_new hp (.tup [.ty T, .ty U])
  exact ⟨v, p, _, _, _, b || b2, rfl, upd_same, .cons (.ty T) (.cons (.ty U) .nil), dp_ty (Dp.same s1 d (Da.dp d w.da)), kit2 h3 h5, post _ _ (r1.same s1) (f1.trans (Fr.of s1)) (.bl _)⟩
/-! is None, is True -/
def isNR : R → Option Bool
  | .dat .none => some true
  | .dat _ => some false
  | .exc _ _ _ => some false
  | .slot _ => none
def isNE (n : Bool) (fa : M R) : M R := M.bind fa fun r => M.bind (lift (isNR r)) fun b => M.pure (ofB (n ^^ b))
theorem isNR_ok {G : Hp} {σ : St} {v : V} {r : R} {b : Bool} (q : RpR K G σ v r) (h : isNR r = some b) : decide (v = .non) = b := by
  cases r with
  | dat d =>
    have q : Da K G v d := q
    cases q with
    | non => cases h; rfl
    | bl _ => cases h; rfl
    | int _ => cases h; rfl
    | str _ => cases h; rfl
    | lst _ _ => cases h; rfl
    | tup _ _ => cases h; rfl
  | slot i => cases h
  | exc C f d =>
    obtain ⟨a, u, rfl, _⟩ := q
    cases h
    rfl
theorem OkE.isN {ta : TE} {fa : M R} (oa : OkE K E ta fa) : OkE K E (tOp (fun x y H Q => y = .non ∧ Q (.bl (decide (x = .non))) H) ta (tC .non)) (isNE false fa) := by
  refine ⟨?_⟩
  intro B σ H env l rs rp h Q post
  refine oa.seq rp h post.exn fun a e v H1 h1 r1 f1 q1 => ?_
  obtain ⟨b, h3, h4⟩ := lift_step h1
  cases h4
  refine ⟨rfl, ?_⟩
  rw [isNR_ok q1 h3]
  exact post _ H1 r1 f1 (by rw [Bool.false_xor]; exact .bl b)
theorem OkE.notN {ta : TE} {fa : M R} (oa : OkE K E ta fa) : OkE K E (tOp (fun x y H Q => y = .non ∧ Q (.bl (!decide (x = .non))) H) ta (tC .non)) (isNE true fa) := by
  refine ⟨?_⟩
  intro B σ H env l rs rp h Q post
  refine oa.seq rp h post.exn fun a e v H1 h1 r1 f1 q1 => ?_
  obtain ⟨b, h3, h4⟩ := lift_step h1
  cases h4
  refine ⟨rfl, ?_⟩
  rw [isNR_ok q1 h3]
  exact post _ H1 r1 f1 (by rw [Bool.true_xor]; exact .bl _)
def isBD (a b : PyData) : Option PyData :=
  match a, b with
  | .bool x, .bool y => some (.bool (decide (x = y)))
  | _, _ => none
theorem ok_isB : OpOk K rIsB isBD := by
  intro S H x y a b d hS wa wb e Q q
  unfold isBD at e
  split at e
  · cases e
    exact ⟨_, _, vw_bool wa, vw_bool wb, q _ _ (same_refl _) (.bl _)⟩
  · cases e
/-! turned round -/
def revD (a : PyData) : Option PyData :=
  match a with
  | .list ds => some (.list ds.reverse)
  | .tuple ds => some (.tuple ds.reverse)
  | _ => none
theorem OkE.rev {ta : TE} {fa : M R} (oa : OkE K E ta fa) : OkE K E (tRevW K ta) (op1 revD fa) := by
  refine ⟨?_⟩
  intro B σ H env l rs rp h Q post
  refine oa.seq rp h post.exn fun a e v H1 h1 r1 f1 q1 => ?_
  obtain ⟨x, h3, w1⟩ := vw_step r1 q1 h1
  obtain ⟨d, h5, h6⟩ := lift_step h3
  cases h6
  cases x with
  | list ds =>
    cases h5
    obtain ⟨p, vs, rfl, e2, e3⟩ := vw_list w1
    refine ⟨p, vs, rfl, .inl ⟨rd_sq e2, fun b H' s n hb => post _ H' (r1.same s) (f1.trans (Fr.of s)) ?_⟩⟩
    exact .lst (SqL.of ((off_ne (r1.fresh n)).trans hb)) (DaAll.same (off_new s) _ (daAll_reverse e3))
  | tuple ds =>
    cases h5
    obtain ⟨p, vs, rfl, e2, e3⟩ := vw_tup w1
    refine ⟨p, vs, rfl, .inr ⟨seqT (off_sub _ _) e2, fun b H' s n hb => post _ H' (r1.same s) (f1.trans (Fr.of s)) ?_⟩⟩
    exact .tup (off_tup (r1.fresh n) hb) (DaAll.same (off_new s) _ (daAll_reverse e3))
  | none => cases h5
  | bool _ => cases h5
  | int _ => cases h5
  | str _ => cases h5
  | dict _ => cases h5
/-! len(set(t)) -/
def nub : List Int → List Int
  | [] => []
  | x :: r => if x ∈ r then nub r else x :: nub r
theorem nub_mem (k : Int) : ∀ ns : List Int, k ∈ nub ns ↔ k ∈ ns
  | [] => Iff.rfl
  | x :: r => by
    unfold nub
    have ih := nub_mem k r
    split
    · rename_i h
      rw [ih]
      exact ⟨List.mem_cons_of_mem _, fun z => (List.mem_cons.mp z).elim (fun z => z ▸ h) id⟩
    · rw [List.mem_cons, ih, List.mem_cons]
theorem nub_nodup : ∀ ns : List Int, (nub ns).Nodup
  | [] => List.nodup_nil
  | x :: r => by
    unfold nub
    split
    · exact nub_nodup r
    · rename_i h
      exact List.nodup_cons.mpr ⟨fun z => h ((nub_mem x r).mp z), nub_nodup r⟩
def lenSetD (a : PyData) : Option PyData :=
  match a with
  | .tuple ds => (intsD ds).bind fun ns => if ns.length ≤ 1000 then some (.int (nub ns).length) else none
  | _ => none
theorem OkE.lenSet {ta : TE} {fa : M R} (oa : OkE K E ta fa) : OkE K E (tLenSetT K ta) (op1 lenSetD fa) := by
  refine ⟨?_⟩
  intro B σ H env l rs rp h Q post
  refine oa.seq rp h post.exn fun a e v H1 h1 r1 f1 q1 => ?_
  obtain ⟨x, h3, w1⟩ := vw_step r1 q1 h1
  obtain ⟨d, h5, h6⟩ := lift_step h3
  cases h6
  cases x with
  | tuple ds =>
    obtain ⟨ns, h7, h8⟩ := Option.bind_eq_some_iff.mp (show (intsD ds).bind _ = some d from h5)
    split at h8
    · rename_i hn
      cases h8
      obtain ⟨p, vs, rfl, e2, e3⟩ := vw_tup w1
      rw [ints_da e3 h7] at e2
      refine ⟨p, ns, rfl, seqT (off_sub _ _) e2, hn, fun out nd hm => ?_⟩
      have : out.length = (nub ns).length := Nat.le_antisymm (sub_len _ _ nd fun x hx => (nub_mem x ns).mpr ((hm x).mp hx)) (sub_len _ _ (nub_nodup ns) fun x hx => (hm x).mpr ((nub_mem x ns).mp hx))
      rw [this]
      exact post _ H1 r1 f1 (.int _)
    · cases h8
  | none => cases h5
  | bool _ => cases h5
  | int _ => cases h5
  | str _ => cases h5
  | list _ => cases h5
  | dict _ => cases h5
/-! str of a number, range as a tuple or list -/
def strD (as : List PyData) : Option PyData :=
  match as with
  | [.int i] => if i.natAbs < 2 ^ 1000 then some (.str (toString i)) else none
  | _ => none
theorem ok_str : CbOk K (fun xs H Q => ∃ i, xs = [.int i] ∧ i.natAbs.log2 < 1920 ∧ Q (.str (toString i)) H) strD := by
  intro S H xs as d hS w e Q q
  unfold strD at e
  split at e
  · split at e
    · rename_i i hi
      cases e
      obtain ⟨x, rfl, wx⟩ := vwAll1 w
      refine ⟨i, by rw [vw_int wx], ?_, q _ _ (same_refl _) (.str _)⟩
      by_cases z : i.natAbs = 0
      · rw [z]; decide
      · exact Nat.lt_trans ((Nat.log2_lt z).mpr hi) (by decide)
    · cases e
  · cases e
theorem rgV_eq (a b : Int) : rgV a b = (rngL a b).map V.int := by
  unfold rgV rngL
  rw [List.map_map]
  rfl
def rgE (fr : M (Int × Int)) : M R := M.bind fr fun r => M.bind (lift (chk (decide (-(2 ^ 62) ≤ r.1 ∧ r.1 < 2 ^ 62 ∧ -(2 ^ 62) ≤ r.2 ∧ r.2 < 2 ^ 62 ∧ (r.2 - r.1).toNat ≤ 1000000)))) fun _ => M.pure (.dat (.tuple ((rngL r.1 r.2).map .int)))
def rg2 (fa fb : M R) : M (Int × Int) := M.bind fa fun a => M.bind fb fun b => M.bind (lift (asI a)) fun i => M.bind (lift (asI b)) fun j => M.pure (i, j)
theorem OkE.tupRg2 {ta tb : TE} {fa fb : M R} (oa : OkE K E ta fa) (ob : OkE K E tb fb) : OkE K E (tTupRg (tRg2 ta tb)) (rgE (rg2 fa fb)) := by
  refine ⟨?_⟩
  intro B σ H env l rs rp h Q post
  have h' : (M.bind fa fun a => M.bind fb fun b => M.bind (lift (asI a)) fun i => M.bind (lift (asI b)) fun j => M.bind (lift (chk (decide (-(2 ^ 62) ≤ i ∧ i < 2 ^ 62 ∧ -(2 ^ 62) ≤ j ∧ j < 2 ^ 62 ∧ (j - i).toNat ≤ 1000000)))) fun _ => M.pure (.dat (.tuple ((rngL i j).map .int)))) env = some rs := by
    rw [← h]
    unfold rgE rg2 M.bind
    cases fa env with
    | none => rfl
    | some z =>
      cases z with
      | ex _ _ _ => rfl
      | ok a e =>
        simp only
        cases fb e with
        | none => rfl
        | some z =>
          cases z with
          | ex _ _ _ => rfl
          | ok b e2 =>
            simp only
            cases asI a with
            | none => rfl
            | some i =>
              cases asI b with
              | none => rfl
              | some j => rfl
  refine oa.seq rp h' post.exn fun a e v1 H1 h1 r1 f1 q1 => ?_
  refine ob.seq r1 h1 (exn_later post.exn f1) fun b e2 v2 H2 h2 r2 f2 q2 => ?_
  obtain ⟨i, h3, h4⟩ := lift_step h2
  obtain ⟨j, h5, h6⟩ := lift_step h4
  rw [asI_some h3] at q1
  rw [asI_some h5] at q2
  cases q1
  cases q2
  obtain ⟨u, h7, h8⟩ := lift_step h6
  cases h8
  have hc := of_decide_eq_true (chk_ok h7)
  refine ⟨i, j, rfl, rfl, ⟨hc.1, hc.2.1, hc.2.2.1, hc.2.2.2.1, Nat.le_trans hc.2.2.2.2 (by decide)⟩, fun p hp => ?_⟩
  rw [rgV_eq]
  exact post _ _ (r2.same (same_new hp _)) ((f1.trans f2).trans (Fr.of (same_new hp _))) (new_dp r2.tl hp (da_ints _)).2
/-! a, b = x, y -/
def parS (i j : Nat) (f g : M Wv) : M Fl := M.bind f fun v => M.bind g fun w => M.bind (putM i v) fun _ => M.bind (putM j w) fun _ => M.pure .nx
theorem OkS.par {i j : Nat} {ta tb : TE} {f g : M Wv} (hb : bx = true → i ≠ 0 ∧ j ≠ 0) (o : OkW K E ta f) (o' : OkW K E tb g) : OkS K E bx (tPar i j (tCons ta (tCons tb tNil))) (parS i j f g) := by
  refine ⟨?_⟩
  intro B σ H env l rs rp h D post
  refine o.seq rp h post.exn fun w1 e1 v1 H1 l1 h1 r1 f1 q1 nd1 fr1 => ?_
  have n1 : ∀ b ∈ l1, ¬ un B l b := fun b z => rp.fresh (fr1 b z)
  have ex1 : ∀ C f d, rs = .ex C f d → Exn K E (un B l1) H1 l C f d := fun C f d e => by
    have := (post.exn C f d e).later f1
    exact fun dx H' v fr n hh q => this dx H' v fr (fun z => n (.inl z)) hh (Da.same (off_mono (fun b z n => absurd (.inl z) n) fun b o n e => e) d q)
  refine o'.seq r1 h1 ex1 fun w2 e2 v2 H2 l2 h2 r2 f2 q2 nd2 fr2 => ?_
  have n2 : ∀ b ∈ l2, ¬ un (un B l1) l b := fun b z => r1.fresh (fr2 b z)
  obtain ⟨hi, h3⟩ := putM_step h2
  obtain ⟨hj, h4⟩ := putM_step h3
  cases h4
  refine ⟨v1, v2, rfl, ?_⟩
  have ec : un (un B l1) l2 = un (un B l2) l1 := by
    funext b
    exact propext ⟨fun z => z.elim (fun z => z.elim (fun z => .inl (.inl z)) .inr) fun z => .inl (.inr z), fun z => z.elim (fun z => z.elim (fun z => .inl (.inl z)) .inr) fun z => .inl (.inr z)⟩
  have q1' : RpW K H2 (off (un (un (un B l2) l1) l) H2) v1 w1 l1 := by
    refine q1.mv (off_mono (fun b z n => ?_) fun b o n e => f2 b o (fun z => n (.inr z)) e) fun b z => ?_
    · rcases z with ((z | z) | z) | z
      · exact absurd (.inl (.inl z)) n
      · exact fr2 b z
      · exact absurd (.inl (.inr z)) n
      · exact absurd (.inr z) n
    · obtain ⟨o, e, _⟩ := q1.trk b z
      rw [e]
      exact f2 b o (fun y => n1 b z (.inr y)) e
  rw [ec] at r2
  obtain ⟨l3, r3, m3⟩ := r2.put hi q1' nd1 fun b z => ⟨fun y => n1 b z (.inr y), fun y => y.elim (fun y => n1 b z (.inl y)) fun y => n2 b y (.inl (.inr z))⟩
  have sub3 : ∀ b ∈ l3, b ∈ l ∨ b ∈ l1 := m3
  have q2' : RpW K H2 (off (un (un B l2) l3) H2) v2 w2 l2 := by
    refine q2.mv (off_mono (fun b z n => ?_) fun b o n e => e) fun _ _ => rfl
    rcases z with (z | z) | z
    · exact absurd (.inl (.inl (.inl z))) n
    · exact absurd (.inl (.inr z)) n
    · rcases m3 b z with z | z
      · exact absurd (.inr z) n
      · exact absurd (.inl (.inl (.inr z))) n
  obtain ⟨l4, r4, m4⟩ := r3.put hj q2' nd2 fun b z => ⟨fun y => (m3 b y).elim (fun y => n2 b z (.inr y)) fun y => n2 b z (.inl (.inr y)), fun y => n2 b z (.inl (.inl y))⟩
  refine post _ H2 l4 r4 ⟨f1.trans f2, fun b z => ?_⟩ fun z => ?_
  · rcases m4 b z with z | z
    · exact (m3 b z).imp id (fr1 b)
    · refine .inr ?_
      cases q : H b with
      | none => rfl
      | some o =>
        have := f1 b o (fun y => n2 b z (.inr y)) q
        rw [fr2 b z] at this
        cases this
  · rw [List.getElem?_set_ne (hb z).2, List.getElem?_set_ne (hb z).1]
/-! dicts of numbers -/
def dnew : M Wv := M.pure (.dct [])
theorem OkW.dnew : OkW K E tDNewK Ov.dnew := by
  refine ⟨?_⟩
  intro B σ H env l rs rp h Q post
  cases h
  intro p hp
  refine post _ _ [p] (rp.grow (same_new hp _) (fun _ z => .inl z) (fun b z => z.imp id fun z => by rw [List.mem_singleton.mp z]; exact hp) fun b z => ?_) (Fr.of (same_new hp _)) ⟨p, rfl, rfl, upd_same⟩ (List.nodup_cons.mpr ⟨by simp, List.nodup_nil⟩) fun b z => by rw [List.mem_singleton.mp z]; exact hp
  by_cases e : b = p
  · subst e; exact ⟨_, upd_same, trivial⟩
  · rw [upd_ne e]; exact rp.tb b (z.resolve_right fun z => e (List.mem_singleton.mp z))
def dctD (i : Nat) : M (List Int) := fun env =>
  match env[i]? with
  | some (some (.dct ks)) => some (.ok ks env)
  | _ => none
theorem dctD_step {α : Type} {i : Nat} {g : List Int → M α} {env : En} {rs : Rs α} (h : (M.bind (dctD i) g) env = some rs) : ∃ ks, env[i]? = some (some (.dct ks)) ∧ g ks env = some rs := by
  have key : ∀ z, dctD i env = some z → ∃ ks, env[i]? = some (some (.dct ks)) ∧ z = .ok ks env := fun z hz => by
    unfold dctD at hz
    split at hz
    · rename_i ks hx
      cases hz
      exact ⟨ks, hx, rfl⟩
    · cases hz
  rcases bind_some h with ⟨a, e, h1, h2⟩ | ⟨C, f, d, h1, h2⟩
  · obtain ⟨ds, e1, e2⟩ := key _ h1
    cases e2
    exact ⟨_, e1, h2⟩
  · obtain ⟨ds, e1, e2⟩ := key _ h1
    cases e2
theorem Rep.dget {B : Addr → Prop} {σ : St} {H : Hp} {env : En} {l : List Addr} {i : Nat} {ks : List Int} (r : Rep K B σ H env l) (hx : env[i]? = some (some (.dct ks))) :
    ∃ p, σ[i]? = some (some (.ref p)) ∧ H p = some (.dK (kvT ks)) ∧ p ∈ l ∧ ∀ ks', Rep K B σ (upd H p (.dK (kvT ks'))) (env.set i (some (.dct ks'))) l := by
  obtain ⟨s, a, lx, ly, q1, q2, ⟨v, rfl, p, rfl, rfl, q6⟩, q5⟩ := r.rp.focus hx
  have hp : p ∈ l := by rw [q2]; exact List.mem_append_right _ (List.mem_append_left _ (List.mem_cons_self ..))
  refine ⟨p, q1, q6, hp, fun ks' => ?_⟩
  have nd := r.nd
  rw [q2] at nd
  obtain ⟨n1, n2, n3⟩ := List.nodup_append.mp nd
  obtain ⟨n4, n5, n6⟩ := List.nodup_append.mp n2
  have sub : Same (off (un B l) H) (off (un B l) (upd H p (.dK (kvT ks')))) := off_mono (fun b z n => absurd z n) fun b o n e => by rw [upd_ne (fun z => n (.inr (by rw [z]; exact hp)))]; exact e
  refine ⟨?_, r.nd, r.out, fun b z => ?_⟩
  · have := q5 (H' := upd H p (.dK (kvT ks'))) (s' := some (.ref p)) (e' := some (.dct ks')) (a' := [p]) sub
      (fun q z => upd_ne fun e => n3 q z p (List.mem_append_left _ (List.mem_cons_self ..)) e) (fun q z => upd_ne fun e => n6 p (List.mem_cons_self ..) q z e.symm) ⟨_, rfl, p, rfl, rfl, upd_same⟩
    rw [set_same q1] at this
    rw [q2] at this ⊢
    exact this
  · obtain ⟨o, e, n⟩ := r.tb b z
    exact ⟨o, by rw [upd_ne (fun y => r.out p hp (by rw [← y]; exact z))]; exact e, n⟩
theorem kvT_val (ks : List Int) (k : Int) : (valV (kvT ks) (Sum.inl k)).isSome = decide (k ∈ ks) := by
  unfold valV kvT
  rw [Option.isSome_map]
  induction ks with
  | nil => rfl
  | cons x r ih =>
    rw [List.map_cons, List.find?_cons]
    by_cases e : x = k
    · subst e; simp
    · have : decide ((Sum.inl x : L2.Key) = Sum.inl k) = false := decide_eq_false fun z => e (Sum.inl.inj z)
      simp only [this]
      rw [ih]
      simp [Ne.symm e]
def putT (ks : List Int) (k : Int) : List Int := if k ∈ ks then ks else ks ++ [k]
theorem kvT_put (ks : List Int) (k : Int) : putK (kvT ks) (Sum.inl k) (.bl true) = kvT (putT ks k) := by
  unfold putK putT
  have ha : ((kvT ks).any fun kv => decide (kv.1 = (Sum.inl k : L2.Key))) = decide (k ∈ ks) := by
    unfold kvT
    induction ks with
    | nil => rfl
    | cons x r ih =>
      rw [List.map_cons, List.any_cons, ih]
      by_cases e : x = k
      · subst e; simp
      · have : decide ((Sum.inl x : L2.Key) = Sum.inl k) = false := decide_eq_false fun z => e (Sum.inl.inj z)
        simp only [this, Bool.false_or]
        simp [Ne.symm e]
  rw [ha]
  by_cases e : k ∈ ks
  · simp only [e, decide_true, if_true]
    unfold kvT
    rw [List.map_map]
    refine List.map_congr_left fun x _ => ?_
    show (if (Sum.inl x : L2.Key) = Sum.inl k then _ else _) = _
    split <;> rfl
  · simp only [e, decide_false, if_false, Bool.false_eq_true]
    unfold kvT
    rw [List.map_append]
    rfl
def dinT (n : Bool) (i : Nat) (fk : M R) : M Bool := M.bind fk fun r => M.bind (lift (asI r)) fun k => M.bind (dctD i) fun ks => M.pure (n ^^ decide (k ∈ ks))
theorem OkT.din {i : Nat} {tk : TE} {fk : M R} (o : OkE K E tk fk) : OkT K E (tB (tDIn tk (tVar i))) (dinT false i fk) := by
  refine ⟨?_⟩
  intro B σ H env l rs rp h Q post
  refine o.seq rp h post.exn fun a e v H1 h1 r1 f1 q1 => ?_
  obtain ⟨k, h2, h3⟩ := lift_step h1
  obtain ⟨ks, hx, h4⟩ := dctD_step h3
  cases h4
  rw [asI_some h2] at q1
  cases q1
  obtain ⟨p, s1, s2, s3, _⟩ := r1.dget hx
  refine ⟨.ref p, s1, p, _, rfl, DGet.k (k := Sum.inl k) s2, _, rfl, ?_⟩
  rw [kvT_val]
  rw [Bool.false_xor] at post
  exact post H1 r1 f1
def dputS (i : Nat) (fk : M R) : M Fl := M.bind (dctD i) fun _ => M.bind fk fun r => M.bind (lift (asI r)) fun k => M.bind (dctD i) fun ks => M.bind (lift (chk (decide (ks.length < 1000)))) fun _ => M.bind (putM i (.dct (putT ks k))) fun _ => M.pure .nx
theorem OkS.dput {i : Nat} {tk : TE} {fk : M R} (o : OkE K E tk fk) : OkS K E bx (sDPut (tVar i) tk (tC (.bl true))) (dputS i fk) := by
  refine ⟨?_⟩
  intro B σ H env l rs rp h D post
  obtain ⟨ks0, hx0, h0⟩ := dctD_step h
  obtain ⟨p, s1, s2, s3, _⟩ := rp.dget hx0
  refine ⟨.ref p, s1, ?_⟩
  refine o.seq rp h0 post.exn fun a e v H1 h1 r1 f1 q1 => ?_
  obtain ⟨k, h2, h3⟩ := lift_step h1
  obtain ⟨ks, hx, h4⟩ := dctD_step h3
  obtain ⟨u, h4a, h4⟩ := lift_step h4
  have hn := of_decide_eq_true (chk_ok h4a)
  obtain ⟨_, h5⟩ := putM_step h4
  cases h5
  rw [asI_some h2] at q1
  cases q1
  obtain ⟨p', t1, t2, t3, t4⟩ := r1.dget hx
  rw [s1] at t1
  cases t1
  refine ⟨p, _, rfl, DPut.k (k := Sum.inl k) t2 ?_, ?_⟩
  · unfold kvT
    rw [List.length_map]
    exact small1000 (by omega)
  · rw [kvT_put]
    exact post σ _ l (t4 _) (Fr2.of (f1.trans (fr_upd t3))) fun _ => rfl
def sortDct (i : Nat) : M R := M.bind (dctD i) fun ks => M.bind (lift (chk (decide (ks.length < 64)))) fun _ => M.pure (.dat (.list ((sortI ks).map .int)))
theorem OkE.sortDct {i : Nat} : OkE K E (tCB (fun xs H Q => ∃ (a : Addr) (kvs : List (L2.Key × V)) (ks : List Int), xs = [.ref a] ∧ Rd H a (.dK kvs) ∧ kvs.map (·.1) = ks.map Sum.inl ∧ ks.length < 64 ∧
    ∀ (ys : List Int) (p : Addr), ys.Perm ks → ys.Pairwise (· ≤ ·) → H p = none → Q (.ref p) (upd H p (.lst (ys.map V.int)))) (tCons (tVar i) tNil)) (Ov.sortDct i) := by
  refine ⟨?_⟩
  intro B σ H env l rs rp h Q post
  obtain ⟨ks, hx, h0⟩ := dctD_step h
  obtain ⟨p, s1, s2, s3, _⟩ := rp.dget hx
  obtain ⟨u, h0a, h0⟩ := lift_step h0
  have hn := of_decide_eq_true (chk_ok h0a)
  · cases h0
    refine ⟨.ref p, s1, p, _, ks, rfl, .inl s2, ?_, hn, fun ys q pm pw hq => ?_⟩
    · unfold kvT
      rw [List.map_map]
      rfl
    · have : ys = sortI ks := sort_uniq (pm.trans (sortI_perm ks).symm) pw (sortI_pw ks)
      subst this
      exact post _ _ (rp.same (same_new hq _)) (Fr.of (same_new hq _)) (new_dp rp.tl hq (da_ints _)).1
end
end Ov

set_option Elab.async false
set_option linter.all false
set_option maxRecDepth 100000
set_option maxHeartbeats 4000000
namespace Ov
open PySem L2
/-! repr -/
def rReprA (K : PySem.W.Frag) : List V → Hp → VK → Prop := fun vs H Q => ∃ (v : V) (d : PyData), vs = [v] ∧ Dp K H v d ∧ d.showable = true ∧ d.hasDict = false ∧ d.depth ≤ 60 ∧ d.shown.length ≤ sizeLine ∧ Q (.str d.shown) H
section
variable {X : Cx}
theorem call_reprA (hg : X.A.guards = some []) (hu : X.A.units + 64 < cLine) : CallR X (.builtin "repr") (rReprA X.K) := by
  intro pins s σ H xs us Q I r h
  obtain ⟨v, d, rfl, hd, hs, hn, hp, hz, q⟩ := h
  obtain ⟨u, rfl, e⟩ := vals1 r
  cases hd with
  | non => cases e; exact PySem.P.repr_of_none ⟨.str _, H, I.tok _, ⟨_, rfl⟩, q⟩
  | bl b => cases e; exact PySem.P.repr_of_bool ⟨.str _, H, I.tok _, ⟨_, by cases b <;> rfl⟩, q⟩
  | int i => obtain ⟨t, rfl⟩ := e; exact PySem.P.repr_of_int (of_decide_eq_true hs) ⟨.str _, H, I.tok _, ⟨_, rfl⟩, q⟩
  | str x => obtain ⟨t, rfl⟩ := e; exact PySem.P.repr_of_str ⟨.str _, H, I.tok _, ⟨_, rfl⟩, q⟩ hz
  | lst h1 h2 =>
    cases e
    obtain ⟨as, rd⟩ := Dp.reads I _ _ _ (.lst h1 h2) rfl
    refine PySem.repr_of_reads' rd hs (PyData.noDict_hsm hn) hg (by omega) (fun _ _ e => e) (fun h' t tk hk => ?_) hz
    exact ⟨.str _, H, I.kept fun b o eo => hk b o eo, ⟨_, rfl⟩, q⟩
  | tup h1 h2 =>
    cases e
    obtain ⟨as, rd⟩ := Dp.reads I _ _ _ (.tup h1 h2) rfl
    refine PySem.repr_of_reads' rd hs (PyData.noDict_hsm hn) hg (by omega) (fun _ _ e => e) (fun h' t tk hk => ?_) hz
    exact ⟨.str _, H, I.kept fun b o eo => hk b o eo, ⟨_, rfl⟩, q⟩
end
def canShow (d : PyData) : Bool := d.showable && !d.hasDict && decide (d.depth ≤ 60) && decide (d.shown.length ≤ sizeLine)
def reprD (as : List PyData) : Option PyData :=
  match as with
  | [d] => (chk (canShow d)).map fun _ => .str d.shown
  | _ => none
theorem ok_repr {K : PySem.W.Frag} : CbOk K (rReprA K) reprD := by
  intro S H xs as d hS w e Q q
  unfold reprD at e
  split at e
  · rename_i d0
    obtain ⟨u, e1, e2⟩ := Option.map_eq_some_iff.mp e
    subst e2
    have hc := chk_ok e1
    unfold canShow at hc
    rw [Bool.and_eq_true, Bool.and_eq_true, Bool.and_eq_true] at hc
    obtain ⟨x, rfl, wx⟩ := vwAll1 w
    exact ⟨x, d0, rfl, Da.dp _ wx.da, hc.1.1.1, by simpa using hc.1.1.2, of_decide_eq_true hc.1.2, of_decide_eq_true hc.2, q _ _ (same_refl _) (.str _)⟩
  · cases e
section
variable {K : PySem.W.Frag} {E : XK} {bx : Bool}
theorem getD_da {G : Hp} {vs : List V} {ds : List PyData} (h : DaAll K G vs ds) {i : Nat} (hi : i < ds.length) : Da K G (vs.getD i .non) (ds.getD i .none) := by
  obtain ⟨x, e1, e2⟩ := daAll_get h (List.getElem?_eq_getElem hi)
  rw [List.getD_eq_getElem?_getD, List.getD_eq_getElem?_getD, e1, List.getElem?_eq_getElem hi]
  exact e2
theorem kw_da {n : Nat} {pi : List Nat} (hp : pi.all (· < n) = true) {G : Hp} {vs : List V} {ds : List PyData} (h : DaAll K G vs ds) (hn : ds.length = n) : DaAll K G (pi.map fun i => vs.getD i .non) (pi.map fun i => ds.getD i .none) := by
  induction pi with
  | nil => exact .nil
  | cons i r ih =>
    rw [List.all_cons, Bool.and_eq_true] at hp
    exact .cons (getD_da h (by have := of_decide_eq_true hp.1; omega)) (ih hp.2)
theorem OkW.callG {F : List PyData → Option Wv} {t : TA} {fa : M (List R)} (oa : OkA K E t fa) : OkW K E (tCallG (spA K F) t) (callA F fa) := by
  refine ⟨?_⟩
  intro B σ H env l rs rp h Q post
  refine oa.seq rp h post.exn fun a e vs H1 h1 r1 f1 q1 => ?_
  obtain ⟨ds, h2, h3⟩ := lift_step h1
  obtain ⟨w, h4, h5⟩ := lift_some h3
  subst h5
  exact callA_ok r1 f1 (dds_ok q1 h2) h4 post
theorem OkW.callBG {i : Nat} {F : List PyData → List PyData → Option (Wv × List PyData)} {t : TA} {fa : M (List R)} (oa : OkA K E t fa) : OkW K E (tCallG (spB K F) (tCons (tVar i) t)) (Ov.callB i F fa) := by
  have o := OkW.callB (i := i) (F := F) (E' := L2.E0) oa
  refine ⟨?_⟩
  intro B σ H env l rs rp h Q post
  have := o.run rp h post
  show tCons (tVar i) t σ H fun vs H1 => spB K F vs H1 Q L2.E0
  have e : (fun vs H1 => spB K F vs H1 Q L2.E0) = fun vs H1 => spB K F (vs ++ []) H1 Q L2.E0 := by
    funext vs H1
    rw [List.append_nil]
  rw [e]
  exact this
end
end Ov
namespace Ov
open PySem L2
theorem vacA {K : PySem.W.Frag} {vs : List V} {H : Hp} {Q : VK} {E : XK} (h : spA K (fun _ => none) vs H Q E) : False := by
  obtain ⟨B, ds, w, da, hB, hf, q⟩ := h
  cases hf
theorem vacB {K : PySem.W.Frag} {vs : List V} {H : Hp} {Q : VK} {E : XK} (h : spB K (fun _ _ => none) vs H Q E) : False := by
  obtain ⟨B, p, bv, bs, vs', ds, w, bs', rfl, hp, nB, db, da, hB, hf, q⟩ := h
  cases hf
end Ov

set_option Elab.async false
set_option linter.all false
set_option maxRecDepth 100000
set_option maxHeartbeats 4000000
namespace Ov
open PySem L2
/-! the rules whose reading names the written part, with that part given (a comprehension's block has it too) -/
section
variable {X : Cx} {K : PySem.W.Frag} (hK : X.K = K)
include hK
theorem k_len : CallR X (.builtin "len") (fun xs H Q => ∃ p ys, xs = [.ref p] ∧ (SqL K H p ys ∨ SqT K H p ys) ∧ Q (.int ys.length) H) := by subst hK; exact call_len_seq
theorem k_tup : CallR X (.type "tuple") (rTupW K) := by subst hK; exact call_tupW
theorem k_list : CallR X (.type "list") (fun xs H Q => ∃ p ys, xs = [.ref p] ∧ (SqL K H p ys ∨ SqT K H p ys) ∧ ∀ l, H l = none → Q (.ref l) (upd H l (.lst ys))) := by subst hK; exact call_list_of
theorem k_all (hc : X.calm = true) : CallR X (.builtin "all") (rAll K) := by subst hK; exact cr_all hc
theorem k_any (hc : X.calm = true) : CallR X (.builtin "any") (rAny K) := by subst hK; exact cr_any hc
theorem k_sum (hc : X.calm = true) : CallR X (.builtin "sum") (rSum K) := by subst hK; exact cr_sum hc
theorem k_sorted : CallR X (.builtin "sorted") (rSrtW K) := by subst hK; exact cr_sortedW
theorem k_isi : CallR X (.builtin "isinstance") (rIsi K) := by subst hK; exact call_isi
theorem k_isiT : CallR X (.builtin "isinstance") (rIsiT K) := by subst hK; exact call_isiT
theorem k_repr (hg : X.A.guards = some []) (hu : X.A.units + 64 < cLine) : CallR X (.builtin "repr") (rReprA K) := by subst hK; exact call_reprA hg hu
theorem k_in : OpR X (compareOp .In) (rIn K false) := by subst hK; exact op_in_seq
theorem k_notin : OpR X (compareOp .NotIn) (rIn K true) := by subst hK; exact op_notIn_seq
theorem k_inD (hu : X.A.units + 65 < cLine) : OpR X (compareOp .In) (rInD K) := by subst hK; exact op_inD hu
theorem k_notinD (hu : X.A.units + 65 < cLine) : OpR X (compareOp .NotIn) (rNotInD K) := by subst hK; exact op_notInD hu
theorem k_eqD (hu : X.A.units + 64 < cLine) : OpR X (compareOp .Eq) (rEqD K) := by subst hK; exact op_eqD hu
theorem k_neD (hu : X.A.units + 64 < cLine) : OpR X (compareOp .NotEq) (rNeD K) := by subst hK; exact op_neD hu
theorem k_ix : IxR X (rIx K) := by subst hK; exact ix_seq
theorem k_cut : SlR X (rCut K) := by subst hK; exact sl_cut
theorem k_catW : OpR X (binaryOp .Add) (rCatW K) := by subst hK; exact op_catW
theorem k_revW {e : Expr} {te : TE} {k : Nat} {p1 p2 p3 pos : Pos} (he : PE X e te) : PE X (.Subscript e (.Slice none none (some (.UnaryOp .USub (.Constant (.int 1) k p1) p2)) p3) pos) (tRevW K te) := by subst hK; exact pe_revW he
theorem k_lenSet {a : Expr} {ta : TE} {p p2 q pos : Pos} (hc : X.calm = true) (hg : Gl X "len") (hm : X.mg "len" = none) (hg2 : Gl X "set") (hm2 : X.mg "set" = none) (ha : PE X a ta)
    (na : starEach [a] X.env = (false, eval a X.env) :: starEach [] X.env := by rfl) : PE X (.Call (.Name "len" p) [.Call (.Name "set" p2) [a] [] q] [] pos) (tLenSetT K ta) := by subst hK; exact pe_lenSetT hc hg hm hg2 hm2 ha na
theorem k_seq {tg l : Expr} {tl : TE} (hl : PE X l tl) : PI X tg l (iSeq K tl) := by subst hK; exact pi_seq hl
theorem k_zipA {e e2 : Expr} {ta : TA} {p pos tpos : Pos} {elts : List Expr} {kk : Nat} (hg : Gl X "zip") (hm : X.mg "zip" = none) (ha : PA X [e, e2] ta)
    (hs : starEach [e, e2] X.env = (false, eval e X.env) :: starEach [e2] X.env := by rfl) (hpl : (backTo pos (starEach [e2] X.env)).any (·.1) = false := by rfl) :
    PI X (.Tuple elts kk tpos) (.Call (.Name "zip" p) [e, e2] [] pos) (RZ.iZipA K ta) := by subst hK; exact RZ.pi_zipA hg hm ha hs hpl
theorem k_enW {elts : List Expr} {kk : Nat} {tpos : Pos} {e : Expr} {ta : TA} {p pos : Pos} (hg : Gl X "enumerate") (hm : X.mg "enumerate" = none) (ha : PA X [e] ta) (hs : starEach [e] X.env = [(false, eval e X.env)] := by rfl) :
    PI X (.Tuple elts kk tpos) (.Call (.Name "enumerate" p) [e] [] pos) (iEnW K ta) := by subst hK; exact pi_enW hg hm ha hs
theorem k_bm {T id : String} {o e : Expr} {es : List Expr} {to : TE} {t : TA} {name : Str} {apos cpos : Pos} {r : V → List V → Hp → VK → Prop} (pa : PlainAttrs T) (slot : Slot T name id) (hty : typeOf (.builtin id) = pure (.type "method_descriptor")) (hm : MtR X id r) (ho : PE X o to) (ha : PA X (e :: es) t)
    (hbase : attributeBase o name X.env (eval o X.env) = eval o X.env := by rfl)
    (hfew : ((backTo cpos (starEach (e :: es) X.env)).all (fun x => !x.1) && (backToKw cpos (keywordEach [] X.env)).all (fun x => x.1.isSome)
      && decide ((e :: es).length + ([] : List Keyword).length + (if ([] : List Keyword).isEmpty then 0 else 1) < 30)) = true := by rfl)
    (hline : (apos.endLine == cpos.line) = true := by rfl) (hs : starEach (e :: es) X.env = (false, eval e X.env) :: starEach es X.env := by rfl) (hplain : (backTo cpos (starEach es X.env)).any (·.1) = false := by rfl) :
    PE X (.Call (.Attribute o name apos) (e :: es) [] cpos) (tBM K T r to t) := by subst hK; exact pe_bm pa slot hty hm ho ha hbase hfew hline hs hplain
end
section
variable {K : PySem.W.Frag} {E : XK}
/-- xs + ys as a list of one's own -/
def catW (fa fb : M R) : M Wv := M.bind fa fun a => M.bind fb fun b => M.bind (vw a) fun x => M.bind (vw b) fun y => M.bind (lift (catD x y)) fun d => M.bind (lift (match d with | .list ds => some ds | _ => none)) fun ds => M.pure (.own (dats ds))
theorem OkW.cat {ta tb : TE} {fa fb : M R} (oa : OkE K E ta fa) (ob : OkE K E tb fb) : OkW K E (tOp (rCatL K) ta tb) (catW fa fb) := by
  refine ⟨?_⟩
  intro B σ H env l rs rp h Q post
  refine oa.seq rp h post.exn fun a e v1 H1 h1 r1 f1 q1 => ?_
  refine ob.seq r1 h1 (exn_later post.exn f1) fun b e2 v2 H2 h2 r2 f2 q2 => ?_
  obtain ⟨x, h3, w1⟩ := vw_step r2 (q1.mv f2.keep) h2
  obtain ⟨y, h4, w2⟩ := vw_step r2 q2 h3
  obtain ⟨d, h5, h6⟩ := lift_step h4
  obtain ⟨ds, h7, h8⟩ := lift_step h6
  cases h8
  unfold catD at h5
  split at h5
  · obtain ⟨u, e1, e2'⟩ := Option.map_eq_some_iff.mp h5
    subst e2'
    cases h7
    obtain ⟨p, vs, rfl, hq, h3'⟩ := vw_list w1
    obtain ⟨p', vs', rfl, hq', h3''⟩ := vw_list w2
    refine ⟨p, p', vs, vs', rfl, rfl, hq, hq', by rw [daAll_len h3', daAll_len h3'']; exact sz_ok e1, fun r hr => ?_⟩
    obtain ⟨n1, n2⟩ := new_own r2 hr (daAll_append h3' h3'')
    exact post _ _ [r] n1 ((f1.trans f2).trans (Fr.of (same_new hr _))) n2 (List.nodup_cons.mpr ⟨by simp, List.nodup_nil⟩) (fresh_back r2 (f1.trans f2) hr)
  · cases h5
end
end Ov

set_option Elab.async false
set_option linter.all false
set_option maxRecDepth 100000
set_option maxHeartbeats 4000000
namespace Ov
open PySem L2
/-! methods that only read, of a list that is plain data -/
section
variable {K : PySem.W.Frag} {E : XK}
def isLD : PyData → Option Unit
  | .list _ => some ()
  | _ => none
def rmE (fo : List PyData → Option PyData) (fa : M R) (fs : M (List R)) : M R := M.bind fa fun a => M.bind (vw a) fun x0 => M.bind (lift (isLD x0)) fun _ => M.bind fs fun rs => M.bind (vw a) fun x => M.bind (vws rs) fun as => M.bind (lift (fo (x :: as))) fun d => M.pure (.dat d)
theorem OkE.rm {r : V → List V → Hp → VK → Prop} {fo : List PyData → Option PyData} {ta : TE} {t : TA} {fa : M R} {fs : M (List R)} (o : CbOk K (fun vs H Q => ∃ x xs, vs = x :: xs ∧ r x xs H Q) fo) (oa : OkE K E ta fa) (os : OkA K E t fs) : OkE K E (tBM K "list" r ta t) (rmE fo fa fs) := by
  refine ⟨?_⟩
  intro B σ H env l rs rp h Q post
  refine oa.seq rp h post.exn fun a e v1 H1 h1 r1 f1 q1 => ?_
  obtain ⟨x0, h2, w0⟩ := vw_step r1 q1 h1
  obtain ⟨u, h3, h4⟩ := lift_step h2
  have hx : ∃ ds, x0 = .list ds := by
    cases x0 with
    | list ds => exact ⟨ds, rfl⟩
    | _ => cases h3
  obtain ⟨ds, rfl⟩ := hx
  obtain ⟨p, vs0, rfl, hs, _⟩ := vw_list w0
  refine ⟨.inl ⟨rfl, _, hs⟩, ?_⟩
  refine os.seq r1 h4 (exn_later post.exn f1) fun b e2 vs H2 h5 r2 f2 q2 => ?_
  obtain ⟨x, h6, w1⟩ := vw_step r2 (q1.mv f2.keep) h5
  obtain ⟨as, h7, w2⟩ := vws_ok r2 q2 h6
  obtain ⟨d, h8, h9⟩ := lift_step h7
  cases h9
  obtain ⟨x', xs', ex, hr⟩ := o r2.tl (.cons w1 w2) h8 fun v H' s q => post v H' (r2.same s) ((f1.trans f2).trans (Fr.of s)) q
  cases ex
  exact hr
/-- l.index(x) -/
def idxD (as : List PyData) : Option PyData :=
  match as with
  | [.list ds, d] => if shp (.list ds) && shp d then (ds.findIdx? fun z => PyData.eqv z d).map fun j => .int (j : Nat) else none
  | _ => none
theorem ok_idx : CbOk K (fun vs H Q => ∃ x xs, vs = x :: xs ∧ rIndexD K x xs H Q) idxD := by
  intro S H xs as d hS w e Q q
  unfold idxD at e
  split at e
  · split at e
    · rename_i ds d0 hc
      rw [Bool.and_eq_true] at hc
      obtain ⟨j, e1, e2⟩ := Option.map_eq_some_iff.mp e
      subst e2
      cases w with
      | cons w1 w2 =>
        cases w2 with
        | cons w2 w3 =>
          cases w3
          obtain ⟨p, vs, rfl, hs, hd⟩ := vw_list w1
          rw [List.findIdx?_eq_some_iff_getElem] at e1
          obtain ⟨hj, e3, e4⟩ := e1
          refine ⟨_, _, rfl, p, _, d0, ds, j, ds[j], rfl, rfl, Da.dp _ w1.da, Da.dp _ w2.da, hc.1, hc.2, List.getElem?_eq_getElem hj, e3, fun m z' hm hz => ?_, q _ _ (same_refl _) (.int _)⟩
          obtain ⟨hml, rfl⟩ := List.getElem?_eq_some_iff.mp hz
          exact Bool.eq_false_iff.mpr (e4 m hm)
    · cases e
  · cases e
end
section
variable {X : Cx} {K : PySem.W.Frag} (hK : X.K = K)
include hK
theorem k_index (hu : X.A.units + 65 < cLine) : MtR X "list.index" (rIndexD K) := by subst hK; exact mt_indexD hu
end
end Ov

set_option Elab.async false
set_option linter.all false
set_option maxRecDepth 100000
set_option maxHeartbeats 4000000
namespace Ov
open PySem L2 PySem.Spec PyProof.Rows
/-! zip of two sequences, each a list or a tuple -/
def SqB (t : Bool) (K : PySem.W.Frag) (H : Hp) (a : Addr) (xs : List V) : Prop := match t with
  | true => SqT K H a xs
  | false => SqL K H a xs
def ItB (t : Bool) (h : Heap) (it l : Addr) (k : Nat) : Prop := match t with
  | true => h.IsTupleIter it l k
  | false => h.IsListIter it l k
def SeB (t : Bool) (h : Heap) (l : Addr) (its : Array Value) : Prop := match t with
  | true => h.IsTuple l its
  | false => h.IsList l its
def itO (t : Bool) (l : Addr) : Obj := { cls := .type (match t with | true => "tuple_iterator" | false => "list_iterator"), data := .fields #[.ref l, .int 0 0] }
theorem drB {P : Program} {w : World} {A : Around} (t : Bool) (no : A.handled = none) (it l : Addr) (ne : l ≠ it) (its : Array Value) :
    Draws P w A it [it, l] its.size (fun i v => its[i]? = some v) (fun i h => ItB t h it l i ∧ SeB t h l its) := by
  cases t with
  | true => exact Draws.tuple no it l ne its
  | false => exact Draws.list no it l ne its
theorem bgB (t : Bool) (l : Addr) (its : Array Value) : Begins (.ref l) (itO t l) (fun h => SeB t h l its) := by
  cases t with
  | true => exact begins_tuple l its
  | false => exact begins_list l its
theorem ItB.new {t : Bool} {h : Heap} {it l : Addr} (e : h.get? it = some (itO t l)) : ItB t h it l 0 := by
  cases t with
  | true => exact ⟨_, e, rfl, rfl⟩
  | false => exact ⟨_, e, rfl, rfl⟩
theorem ItB.up {t : Bool} {h h' : Heap} {it l : Addr} {k : Nat} (x : ItB t h it l k) (f : ∀ o, h.get? it = some o → h'.get? it = some o) : ItB t h' it l k := by
  cases t with
  | true => exact Heap.IsTupleIter.at x f
  | false => exact Heap.IsListIter.at x f
theorem ItB.ob {t : Bool} {h : Heap} {it l : Addr} {k : Nat} (x : ItB t h it l k) : ∃ o, h.get? it = some o ∧ ∀ v, o.data ≠ .cell v := by
  cases t with
  | true => obtain ⟨o, e, _, d⟩ := x; exact ⟨o, e, fun v z => by rw [d] at z; cases z⟩
  | false => obtain ⟨o, e, _, d⟩ := x; exact ⟨o, e, fun v z => by rw [d] at z; cases z⟩
theorem SeB.lt {t : Bool} {h : Heap} {l : Addr} {its : Array Value} (x : SeB t h l its) : l < h.objs.size := by
  cases t with
  | true => obtain ⟨o, e, _⟩ := x; exact Heap.lt_size e
  | false => obtain ⟨o, e, _⟩ := x; exact Heap.lt_size e
section
variable {X : Cx} {pins : List (Addr × Obj)} {σ : L2.St} {H : Hp} {s : Shared} {t : Bool} {a : Addr} {xs ys : List V}
theorem SqB.read (I : Inv X pins σ H s) (h : SqB t X.K H a xs) : ∃ its : List Value, Vals xs its ∧ SeB t s.heap a its.toArray := by
  cases t with
  | true => obtain ⟨its, r, p, _⟩ := I.tuple h; exact ⟨its, r, p⟩
  | false => obtain ⟨its, r, p, _⟩ := I.list h; exact ⟨its, r, p.isList⟩
theorem SqB.inj (I : Inv X pins σ H s) (h : SqB t X.K H a xs) (h' : SqB t X.K H a ys) : xs = ys := by
  cases t with
  | true => exact I.tuple_inj h h'
  | false => exact I.list_inj h h'
end
def ItzB (t u : Bool) (K : PySem.W.Frag) (a b : Addr) : It where
  go := fun i H => ∃ (xs ys : List V) (x y : V), SqB t K H a xs ∧ SqB u K H b ys ∧ xs[i]? = some x ∧ ys[i]? = some y
  yld := fun i H v H' => ∃ p x y, v = .ref p ∧ H p = none ∧ H' = upd H p (.tup [x, y]) ∧ (∀ xs, SqB t K H a xs → xs[i]? = some x) ∧ ∀ ys, SqB u K H b ys → ys[i]? = some y
  stop := fun i H => ∃ xs ys : List V, SqB t K H a xs ∧ SqB u K H b ys ∧ i ≤ xs.length ∧ i ≤ ys.length ∧ (xs.length = i ∨ ys.length = i)
theorem turn_zipB {P : Program} {w : World} {K : PySem.W.Frag} {tgs : List Expr} {kk : Nat} {tp : Pos} {t u : Bool} {a b z m n c d : Addr} (D : ZipSep2 z m n c d [c, a] [d, b]) (na : a ≠ c) (nb : b ≠ d) :
    Turn P w K (.Tuple tgs kk tp) (ItzB t u K a b) [z, m, n, c, d] z (fun i h => IsZip h z m n .none ∧ IsTupOf2 h m (.ref c) (.ref d) ∧ (∃ x y, IsTupOf2 h n x y) ∧ ItB t h c a i ∧ ItB u h d b i) where
  mem := by simp
  obj := fun i h st e he => by
    obtain ⟨q1, q2, ⟨x, y, q3⟩, q4, q5⟩ := st
    simp only [List.mem_cons, List.not_mem_nil, or_false] at he
    rcases he with rfl | rfl | rfl | rfl | rfl
    · exact ⟨_, q1, fun v r => nomatch r⟩
    · exact ⟨_, q2, fun v r => nomatch r⟩
    · exact ⟨_, q3, fun v r => nomatch r⟩
    · exact q4.ob
    · exact q5.ob
  keep := fun i h h' st k => by
    obtain ⟨q1, q2, ⟨x, y, q3⟩, q4, q5⟩ := st
    exact ⟨k _ (by simp) _ q1, k _ (by simp) _ q2, ⟨x, y, k _ (by simp) _ q3⟩, q4.up fun o e => k _ (by simp) o e, q5.up fun o e => k _ (by simp) o e⟩
  item := by
    intro X eP ew eK calm i pins s σ H E I ff st hg
    subst eP ew eK
    obtain ⟨q1, q2, ⟨x0, y0, q3⟩, q4, q5⟩ := st
    obtain ⟨xs, ys, x, y, hX, hY, ex, ey⟩ := hg
    obtain ⟨is, rx, px⟩ := hX.read I
    obtain ⟨js, ry, py⟩ := hY.read I
    obtain ⟨v1, e1, r1⟩ := rx.get ex
    obtain ⟨v2, e2, r2⟩ := ry.get ey
    have lz : z < s.heap.objs.size := Heap.lt_size q1
    have no := I.ok.hd calm
    have b1 : i < is.toArray.size := by simpa using (List.getElem?_eq_some_iff.mp e1).1
    have b2 : i < js.toArray.size := by simpa using (List.getElem?_eq_some_iff.mp e2).1
    refine wpAny_pyNext_zipD2_item D (drB t (A := X.A.in1) no c a na is.toArray) (drB u (A := X.A.in1) no d b nb js.toArray) q1 q2 q3 ⟨q4, px⟩ ⟨q5, py⟩ b1 b2 ?_
    intro w1 w2 h' tk p1 p2 z' n' s1 s2 nw hsz hk
    have c1 : w1 = v1 := Option.some.inj ((show is.toArray[i]? = some w1 from p1).symm.trans (by simpa using e1))
    have c2 : w2 = v2 := Option.some.inj ((show js.toArray[i]? = some w2 from p2).symm.trans (by simpa using e2))
    subst c1 c2
    refine ⟨_, rfl, wpAny_letOwnedTupleGo_zip (s := { s with heap := h', toks := tk }) z' fun h'' z'' sb => ?_⟩
    have nw2 : h''.get? s.heap.objs.size = some { cls := .type "tuple", data := .seq #[w1, w2] } := (sb.2 _ (Nat.ne_of_gt lz)).trans nw
    have ok : ObjOk X.prog X.w (upd H s.heap.objs.size (.tup [x, y])) h'' s.heap.objs.size (.tup [x, y]) := ⟨by show 2 ≤ sizeLine; decide, [w1, w2], .cons r1 (.cons r2 .nil), ⟨_, nw2, rfl, _, rfl⟩⟩
    have I1 : Inv X pins σ (upd H s.heap.objs.size (.tup [x, y])) { s with heap := h'', toks := tk } := by
      refine I.turnedNew (t' := tk) (ch := [z, m, n, c, d]) (fun e o he f => ?_) ff (Nat.le_refl _) ok
      simp only [List.mem_cons, List.not_mem_nil, or_false, not_or] at he
      exact (sb.2 e he.1).trans (hk e o he.1 he.2.2.1 he.2.2.2.1 he.2.2.2.2 f)
    have zc : c ≠ z := fun e => D.zi1 e.symm
    have zd : d ≠ z := fun e => D.zi2 e.symm
    refine ⟨.ref s.heap.objs.size, _, I1, rfl, ⟨_, x, y, rfl, I.hok.fresh (Nat.le_refl _), rfl, fun l hl => by rw [hl.inj I hX]; exact ex, fun l hl => by rw [hl.inj I hY]; exact ey⟩, ⟨z'', ?_, ⟨w1, w2, ?_⟩, ?_, ?_⟩, fun e he => ?_⟩
    · exact (sb.2 _ D.TIz).trans (hk _ _ D.TIz D.TITO D.TIi1 D.TIi2 q2)
    · exact (sb.2 _ D.TOz).trans n'
    · exact s1.1.up fun o f => (sb.2 _ zc).trans f
    · exact s2.1.up fun o f => (sb.2 _ zd).trans f
    · obtain ⟨o, f, _⟩ : ∃ o, s.heap.get? e = some o ∧ True := by
        simp only [List.mem_cons, List.not_mem_nil, or_false] at he
        rcases he with rfl | rfl | rfl | rfl | rfl
        · exact ⟨_, q1, trivial⟩
        · exact ⟨_, q2, trivial⟩
        · exact ⟨_, q3, trivial⟩
        · obtain ⟨o, f, _⟩ := q4.ob; exact ⟨o, f, trivial⟩
        · obtain ⟨o, f, _⟩ := q5.ob; exact ⟨o, f, trivial⟩
      rw [upd_ne (Nat.ne_of_lt (Heap.lt_size f))]
      exact (ff e he).1
  done := by
    intro X eP ew eK calm i pins s σ H E I ff st hg
    subst eP ew eK
    obtain ⟨q1, q2, ⟨x0, y0, q3⟩, q4, q5⟩ := st
    obtain ⟨xs, ys, hX, hY, l1, l2, over⟩ := hg
    obtain ⟨is, rx, px⟩ := hX.read I
    obtain ⟨js, ry, py⟩ := hY.read I
    have no := I.ok.hd calm
    have g1 := rx.length
    have g2 := ry.length
    refine wpAny_pyNext_zipD2_end D (drB t (A := X.A.in1) no c a na is.toArray) (drB u (A := X.A.in1) no d b nb js.toArray) q1 q2 q3 ⟨q4, px⟩ ⟨q5, py⟩ (by rw [List.size_toArray]; omega) (by rw [List.size_toArray]; omega) ?_ fun h' tk hk => ⟨rfl, ?_⟩
    · rw [List.size_toArray, List.size_toArray]
      omega
    · refine I.turnedL (t' := tk) (ch := [z, m, n, c, d]) (fun e o he f => ?_) ff
      simp only [List.mem_cons, List.not_mem_nil, or_false, not_or] at he
      exact hk e o he.1 he.2.2.1 he.2.2.2.1 he.2.2.2.2 f
  self := fun A i s Q E st h => wpAny_pyIter_zip st.1 h
end Ov

set_option Elab.async false
set_option linter.all false
set_option maxRecDepth 100000
set_option maxHeartbeats 4000000
namespace Ov
open PySem L2 PySem.Spec PyProof.Rows
def iZipB (K : PySem.W.Frag) (ta : TA) : TI := fun σ H R => ta σ H fun vs H1 => ∃ (t u : Bool) (a b : Addr) (xs ys : List V), vs = [.ref a, .ref b] ∧ SqB t K H1 a xs ∧ SqB u K H1 b ys ∧ R (ItzB t u K a b) H1
theorem pi_zipB {X : Cx} {e1 e2 : Expr} {ta : TA} {p0 p1 p2 : Pos} {tgs : List Expr} {kk : Nat} (gl : Gl X "zip") (un : X.mg "zip" = none) (ha : PA X [e1, e2] ta)
    (st : starEach [e1, e2] X.env = (false, eval e1 X.env) :: starEach [e2] X.env := by rfl) (pl : (backTo p1 (starEach [e2] X.env)).any (·.1) = false := by rfl) :
    PI X (.Tuple tgs kk p2) (.Call (.Name "zip" p0) [e1, e2] [] p1) (iZipB X.K ta) := by
  refine ⟨fun pins s σ H R I h => ?_⟩
  refine Call_ (ld_blt I gl un boot_zip (callWith_type1 (thn (ha.run p1 pins s σ H _ I h) ?_) st pl))
  rintro us s1 ⟨vs, H1, J, rel, t, u, a, b, xs, ys, rfl, hX, hY, q⟩
  obtain ⟨v1, v2, rfl, r1, r2⟩ : ∃ v1 v2, us = [v1, v2] ∧ v1 = Value.ref a ∧ v2 = Value.ref b := by
    cases rel with
    | cons r rr => cases rr with | cons r' rr => cases rr; exact ⟨_, _, rfl, r, r'⟩
  subst r1 r2
  obtain ⟨is, _, px⟩ := hX.read J
  obtain ⟨js, _, py⟩ := hY.read J
  have la := px.lt
  have lb := py.lt
  refine zip_begins2 (bgB t a is.toArray) (bgB u b js.toArray) px py fun h' z m n c d _ hk => wpAny_pyIter_zip z ?_
  have J2 : Inv X pins σ H1 { s1 with heap := h' } := J.kept (t' := s1.toks) hk
  have sep : ZipSep2 (s1.heap.objs.size + 4) (s1.heap.objs.size + 2) (s1.heap.objs.size + 3) s1.heap.objs.size (s1.heap.objs.size + 1) [s1.heap.objs.size, a] [s1.heap.objs.size + 1, b] := zip_sep2 (fp1 := [a]) (fp2 := [b]) (fun e he => by rw [List.mem_singleton.mp he]; exact la) (fun e he => by rw [List.mem_singleton.mp he]; exact lb)
  refine ⟨_, [s1.heap.objs.size + 4, s1.heap.objs.size + 2, s1.heap.objs.size + 3, s1.heap.objs.size, s1.heap.objs.size + 1], _, _, H1, rfl, J2, turn_zipB sep (Nat.ne_of_lt la) (Nat.ne_of_lt (Nat.lt_succ_of_lt lb)), ⟨z, m, ⟨_, _, n⟩, .new c, .new d⟩, fun e he => ?_, q⟩
  have le : s1.heap.objs.size ≤ e := by
    simp only [List.mem_cons, List.not_mem_nil, or_false] at he
    rcases he with rfl | rfl | rfl | rfl | rfl
    · exact Nat.le_add_right _ _
    · exact Nat.le_add_right _ _
    · exact Nat.le_add_right _ _
    · exact Nat.le_refl _
    · exact Nat.le_add_right _ _
  exact J.fpOk le (J.hok.fresh le)
section
variable {K : PySem.W.Frag} {E : XK} {t u : Bool} {a b : Addr} {xs ys : List V}
theorem SqB.same {H H' : Hp} (s : Same H H') (h : SqB t K H a xs) : SqB t K H' a xs := by
  cases t with
  | true => exact seqT s h
  | false => exact rd_same s h
theorem da_sq {G : Hp} {v : V} {d : PyData} {ds : List PyData} (h : Da K G v d) (e : seqD d = some ds) : ∃ (t : Bool) (p : Addr) (vs : List V), v = .ref p ∧ SqB t K G p vs ∧ DaAll K G vs ds := by
  cases h with
  | lst q r => cases e; exact ⟨false, _, _, rfl, q, r⟩
  | tup q r => cases e; exact ⟨true, _, _, rfl, q, r⟩
  | non => cases e
  | bl _ => cases e
  | int _ => cases e
  | str _ => cases e
theorem walk_zipB {n : Nat} (hn : n = min xs.length ys.length) : Walk (ItzB t u K a b) n (fun H => SqB t K H a xs ∧ SqB u K H b ys) (YPair (fun i => xs[i]?) (fun i => ys[i]?)) := by
  subst hn
  refine ⟨fun i H hi q => ?_, fun H q => ⟨xs, ys, q.1, q.2, by omega, by omega, by omega⟩, fun i H v H' _ q y => ?_⟩
  · have k1 : i < xs.length := by omega
    have k2 : i < ys.length := by omega
    exact ⟨xs, ys, xs[i], ys[i], q.1, q.2, List.getElem?_eq_getElem k1, List.getElem?_eq_getElem k2⟩
  · obtain ⟨T, x, y', g1, g2, g3, g4, g5⟩ := y
    exact ⟨T, x, y', g1, g2, g3, g4 _ q.1, g5 _ q.2⟩
def zipM (as : List PyData) : Option (List PyData) :=
  match as with
  | [x, y] => (seqD x).bind fun ds => (seqD y).map fun es => pairUp ds es
  | _ => none
theorem OkI.zipB {t : TA} {fa : M (List R)} (o : OkA K E t fa) : OkI K E (iZipB K t) (argI zipM fa) := by
  refine ⟨?_⟩
  intro B σ H env l rs rp h R post
  refine o.seq rp h post.exn fun a e v H1 h1 r1 f1 q1 => ?_
  obtain ⟨ds, h2, h3⟩ := lift_step h1
  obtain ⟨out, h4, h5⟩ := lift_some h3
  subst h5
  have da := dds_ok q1 h2
  unfold zipM at h4
  split at h4
  · obtain ⟨es, e1, e2⟩ := Option.bind_eq_some_iff.mp h4
    obtain ⟨gs, e3, e4⟩ := Option.map_eq_some_iff.mp e2
    subst e4
    cases da with
    | cons d1 t1 =>
      cases t1 with
      | cons d2 t2 =>
        cases t2
        obtain ⟨k1, p, ws, rfl, qa, ha⟩ := da_sq d1 e1
        obtain ⟨k2, p', ws', rfl, qb, hb⟩ := da_sq d2 e3
        refine ⟨k1, k2, p, p', ws, ws', rfl, qa.same (off_sub _ _), qb.same (off_sub _ _), post _ H1 _ _ r1 f1 (walk_zipB (by rw [pair_len, daAll_len ha, daAll_len hb])) (fun H2 f => ⟨(qa.same f.keep).same (off_sub _ _), (qb.same f.keep).same (off_sub _ _)⟩) ?_⟩
        rintro i x H2 H3 d S fr ⟨T, u, w, rfl, hT, g3, g4, g5⟩ hd hs hS
        obtain ⟨x1, y1, j1, j2, rfl⟩ := pair_get hd
        obtain ⟨u', m1, m2⟩ := daAll_get ha j1
        obtain ⟨w', m3, m4⟩ := daAll_get hb j2
        cases m1.symm.trans g4
        cases m3.symm.trans g5
        exact pair_da (B := B) (l := l) (H1 := H1) hS hT g3 (m2.walk fr hs) (m4.walk fr hs)
  · cases h4
/-- for x in reversed(s) -/
def revI (f : M R) : M (List PyData) := M.bind f fun r => M.bind (lift (asD r)) fun d => lift ((seqD d).map List.reverse)
theorem walk_revT : Walk (RT.ItvT K a xs.length) xs.length (fun H => SqT K H a xs) (fun i H x H' => H' = H ∧ xs[xs.length - 1 - i]? = some x) :=
  ⟨fun i _ hi q => ⟨hi, xs, xs[xs.length - 1 - i]'(by omega), q, by simp [show xs.length - 1 - i < xs.length by omega]⟩, fun _ _ => Nat.le_refl _, fun _ _ _ _ _ q y => ⟨y.1, y.2 xs q⟩⟩
theorem OkI.rev {t : TE} {f : M R} (o : OkE K E t f) : OkI K E (RT.iRevA K t) (revI f) := by
  refine ⟨?_⟩
  intro B σ H env l rs rp h R post
  refine o.seq rp h post.exn fun a e v H1 h1 r1 f1 q1 => ?_
  obtain ⟨d, h2, h3⟩ := lift_step h1
  rw [asD_some h2] at q1
  obtain ⟨out, h4, h5⟩ := lift_some h3
  subst h5
  obtain ⟨ds, h6, h7⟩ := Option.map_eq_some_iff.mp h4
  subst h7
  have q1 : Da K (off (un B l) H1) v d := q1
  have at_ : ∀ {vs : List V} {i : Nat} {x : V} {y : PyData}, DaAll K (off (un B l) H1) vs ds → vs[vs.length - 1 - i]? = some x → ds.reverse[i]? = some y → Da K (off (un B l) H1) x y := fun {vs i x y} ha hx hy => by
    have hl := daAll_len ha
    have hi : i < ds.length := by simpa using (List.getElem?_eq_some_iff.mp hy).1
    rw [List.getElem?_reverse hi] at hy
    obtain ⟨x', k1, k2⟩ := daAll_get ha hy
    rw [hl, k1] at hx
    cases hx
    exact k2
  cases d with
  | list es =>
    cases h6
    cases q1 with
    | lst hq ha =>
      refine ⟨_, _, rfl, .inl ⟨rd_same (off_sub _ _) hq, post _ H1 _ _ r1 f1 (by rw [List.length_reverse, ← daAll_len ha]; exact walk_rev) (fun H2 f => rd_same (off_sub _ _) (rd_same f.keep hq)) ?_⟩⟩
      rintro i x H2 H3 d S fr ⟨rfl, hx⟩ hd hs _
      exact ⟨same_refl _, (at_ ha hx hd).walk fr hs⟩
  | tuple es =>
    cases h6
    cases q1 with
    | tup hq ha =>
      refine ⟨_, _, rfl, .inr ⟨seqT (off_sub _ _) hq, post _ H1 _ _ r1 f1 (by rw [List.length_reverse, ← daAll_len ha]; exact walk_revT) (fun H2 f => seqT (off_sub _ _) (seqT f.keep hq)) ?_⟩⟩
      rintro i x H2 H3 d S fr ⟨rfl, hx⟩ hd hs _
      exact ⟨same_refl _, (at_ ha hx hd).walk fr hs⟩
  | none => cases h6
  | bool _ => cases h6
  | int _ => cases h6
  | str _ => cases h6
  | dict _ => cases h6
end
section
variable {X : Cx} {K : PySem.W.Frag} (hK : X.K = K)
include hK
theorem k_zipB {e1 e2 : Expr} {ta : TA} {p0 p1 p2 : Pos} {tgs : List Expr} {kk : Nat} (gl : Gl X "zip") (un : X.mg "zip" = none) (ha : PA X [e1, e2] ta)
    (st : starEach [e1, e2] X.env = (false, eval e1 X.env) :: starEach [e2] X.env := by rfl) (pl : (backTo p1 (starEach [e2] X.env)).any (·.1) = false := by rfl) :
    PI X (.Tuple tgs kk p2) (.Call (.Name "zip" p0) [e1, e2] [] p1) (iZipB K ta) := by subst hK; exact pi_zipB gl un ha st pl
theorem k_rev {tg e : Expr} {te : TE} {p0 p1 : Pos} (gl : Gl X "reversed") (un : X.mg "reversed" = none) (he : PE X e te) (st : starEach [e] X.env = (false, eval e X.env) :: starEach [] X.env := by rfl) :
    PI X tg (.Call (.Name "reversed" p0) [e] [] p1) (RT.iRevA K te) := by subst hK; exact RT.pi_revA gl un he st
end
end Ov

set_option Elab.async false
set_option linter.all false
set_option maxRecDepth 100000
set_option maxHeartbeats 4000000
namespace Ov
open PySem L2 PySem.Spec PyProof.Rows
/-! a zip whose last pair is kept by somebody: it makes a new one each time -/
section
variable {P : Program} {w : World} {A : Around} {E : Value → Shared → Prop} {s : Shared} {z m n c d T : Addr} {fp gp : List Addr} {n1 n2 i : Nat} {P1 P2 : Nat → Value → Prop} {S1 S2 : Nat → Heap → Prop} {f : Bool} {oT : Obj}
theorem zh_run {Q : Fin → Shared → Prop} (D : ZipSep2 z m n c d fp gp) (D1 : Draws P w A c fp n1 P1 S1) (D2 : Draws P w A d gp n2 P2 S2) (hz : IsZipHeld s.heap z m n T f) (hT : s.heap.get? T = some oT) (hm : IsTupOf2 s.heap m (.ref c) (.ref d)) (a1 : S1 i s.heap) (a2 : S2 i s.heap)
    (h : ∀ h1, IsZipHeld h1 z m n T true → Heap.SameBut z s.heap h1 → S1 i h1 → S2 i h1 → wpAny (model P w) A (Builtin.SmallTypes.nextOf (.ref c)) (fun x s2 => wpAny (model P w) A (Builtin.SmallTypes.nextOf (.ref d)) (fun y s3 => wpAny (model P w) A (newTuple [x, y]) (fun v s4 => Q (.done (.ret v)) s4) E s3) E s2) E { s with heap := h1 }) :
    wpAny (model P w) A (Builtin.«zip.__next__» ⟨[.ref z], []⟩) Q E s := by
  show wpAny _ _ (field (.ref z) 2 >>= _) _ _ _
  refine wpAny_bind (wpAny_field hz rfl (x := .bool false) rfl (show wpAny _ _ (field (.ref z) 3 >>= _) _ _ _ from ?_))
  refine wpAny_bind (wpAny_field hz rfl (x := .ref m) rfl (wpAny_bind (wpAny_seqItems hm rfl ?_)))
  refine (show wpAny _ _ (Builtin.SmallTypes.ownedTupleIsFree (.ref z) >>= _) _ _ _ from wpAny_bind (wpAny_tupleHeld_zip hz hT fun h1 z1 e1 => ?_))
  simp only [Bool.false_eq_true, if_false]
  refine wpAny_bind ?_
  rw [← Array.forIn_toList]
  simp only [List.forIn_cons, List.forIn_nil]
  have b1 := D1.over a1 e1 D.zf1
  have b2 := D2.over a2 e1 D.zf2
  refine wpAny_bind (wpAny_bind (wpAny_holding (show wpAny _ _ (Builtin.SmallTypes.nextOf (.ref c) >>= _) _ _ _ from wpAny_bind (wpAny_mono (h h1 z1 e1 b1 b2) (fun x s2 k2 => ?_) fun _ _ k => k))))
  refine wpAny_pure (wpAny_pure (wpAny_bind (wpAny_bind (wpAny_holding (show wpAny _ _ (Builtin.SmallTypes.nextOf (.ref d) >>= _) _ _ _ from wpAny_bind (wpAny_mono k2 (fun y s3 k3 => ?_) fun _ _ k => k))))))
  refine wpAny_pure (wpAny_pure (wpAny_pure (show wpAny _ _ (newTuple [x, y] >>= _) _ _ _ from wpAny_bind (wpAny_mono k3 (fun v s4 k4 => wpAny_pure k4) fun _ _ k => k))))
theorem zh_item {Q : Option Value → Shared → Prop} (D : ZipSep2 z m n c d fp gp) (D1 : Draws P w A.in1 c fp n1 P1 S1) (D2 : Draws P w A.in1 d gp n2 P2 S2) (hz : IsZipHeld s.heap z m n T f) (hT : s.heap.get? T = some oT) (hm : IsTupOf2 s.heap m (.ref c) (.ref d)) (a1 : S1 i s.heap) (a2 : S2 i s.heap) (l1 : i < n1) (l2 : i < n2)
    (q : ∀ x y h' tk, P1 i x → P2 i y → IsZipHeld h' z m n T true → S1 (i + 1) h' → S2 (i + 1) h' → IsTupOf2 h' s.heap.objs.size x y → (∀ e o, e ≠ z → e ≠ c → e ≠ d → s.heap.get? e = some o → h'.get? e = some o) → Q (some (.ref s.heap.objs.size)) { s with heap := h', toks := tk }) :
    wpAny (model P w) A (pyNext (.ref z)) Q E s := by
  have ty : s.TypeIs (.ref z) "zip" := ⟨_, hz, rfl⟩
  unfold pyNext
  refine wpAny_bind (wpAny_attempt (wpAny_callSpecial?_slot (name := Str.ofString "__next__") ty F.slot_zip_next (wpAny_call_entry F.slot_zip_next ty F.entry_zip_next (zh_run D D1 D2 hz hT hm a1 a2 fun h1 z1 e1 b1 b2 => ?_) (F.args_zip_next_1 _))))
  refine D1.item i _ _ _ l1 b1 fun x h2 t2 p1 c1 e2 => D2.item i _ _ _ l2 (D2.over b2 e2 D.sep1_2) fun y h3 t3 p2 c2 e3 => wpAny_newTuple ⟨_, rfl, wpAny_pure ?_⟩
  have sz : h3.objs.size = s.heap.objs.size := e3.1.trans (e2.1.trans e1.1)
  have z3 : IsZipHeld h3 z m n T true := e3.extBut _ _ D.zi2 (e2.extBut _ _ D.zi1 z1)
  have up : ∀ e o, h3.get? e = some o → (h3.push { cls := .type "tuple", data := .seq #[x, y] }).get? e = some o := fun e o k => Heap.get?_push_of_some _ k
  have new : IsTupOf2 (h3.push { cls := .type "tuple", data := .seq #[x, y] }) h3.objs.size x y := Heap.get?_push_size _ rfl
  show Q (some (.ref h3.objs.size)) _
  rw [sz] at new ⊢
  exact q x y _ _ p1 p2 (up _ _ z3) (D1.frame _ _ _ (D1.over c1 e3 D.sep2_1) fun b _ o k => up b o k) (D2.frame _ _ _ c2 fun b _ o k => up b o k) new fun e o k1 k2 k3 k => up e o (e3.extBut _ _ k3 (e2.extBut _ _ k2 (e1.extBut _ _ k1 k)))
theorem zh_end {Q : Option Value → Shared → Prop} (D : ZipSep2 z m n c d fp gp) (D1 : Draws P w A.in1 c fp n1 P1 S1) (D2 : Draws P w A.in1 d gp n2 P2 S2) (hz : IsZipHeld s.heap z m n T f) (hT : s.heap.get? T = some oT) (hm : IsTupOf2 s.heap m (.ref c) (.ref d)) (a1 : S1 i s.heap) (a2 : S2 i s.heap) (l1 : i ≤ n1) (l2 : i ≤ n2) (l3 : i = n1 ∨ i = n2)
    (q : ∀ h' tk, (∀ e o, e ≠ z → e ≠ c → e ≠ d → s.heap.get? e = some o → h'.get? e = some o) → Q none { s with heap := h', toks := tk }) :
    wpAny (model P w) A (pyNext (.ref z)) Q E s := by
  have ty : s.TypeIs (.ref z) "zip" := ⟨_, hz, rfl⟩
  unfold pyNext
  refine wpAny_bind (wpAny_attempt (wpAny_callSpecial?_slot (name := Str.ofString "__next__") ty F.slot_zip_next (wpAny_call_entry F.slot_zip_next ty F.entry_zip_next (zh_run D D1 D2 hz hT hm a1 a2 fun h1 z1 e1 b1 b2 => ?_) (F.args_zip_next_1 _))))
  by_cases k1 : i = n1
  · subst k1
    refine D1.done _ _ _ b1 fun h2 e x2 ⟨o, ho, hc⟩ => wpAny_bind (wpAny_isInstance (T := "StopIteration") (b := true) ⟨o, ho, hc⟩ isSubtype_stop (wpAny_pure (q _ s.toks fun b o j1 j2 _ k => x2 _ _ j2 (e1.extBut _ _ j1 k))))
  · have k2 : i = n2 := l3.resolve_left k1
    subst k2
    refine D1.item i _ _ _ (by omega) b1 fun x h2 t2 p1 c1 e2 => D2.done _ _ _ (D2.over b2 e2 D.sep1_2) fun h3 e x3 ⟨o, ho, hc⟩ => ?_
    exact wpAny_bind (wpAny_isInstance (T := "StopIteration") (b := true) ⟨o, ho, hc⟩ isSubtype_stop (wpAny_pure (q _ _ fun b o j1 j2 j3 k => x3 _ _ j3 (e2.extBut _ _ j2 (e1.extBut _ _ j1 k)))))
end
end Ov

set_option Elab.async false
set_option linter.all false
set_option maxRecDepth 100000
set_option maxHeartbeats 4000000
namespace Ov
open PySem L2 PySem.Spec PyProof.Rows
/-! list(zip(a, b)) -/
def Zs (h : Heap) (H : Hp) (z m n : Addr) : Prop := (IsZip h z m n .none ∧ ∃ x y, IsTupOf2 h n x y) ∨ ∃ (T : Addr) (f : Bool) (x y : V), IsZipHeld h z m n T f ∧ H T = some (.tup [x, y])
structure Lz (X : Cx) (pins : List (Addr × Obj)) (σ : L2.St) (t u : Bool) (a b : Addr) (xs ys : List V) (z m n c d : Addr) (H0 : Hp) (i : Nat) (H : Hp) (s : Shared) : Prop where
  inv : Inv X pins σ H s
  fa : SqB t X.K H0 a xs
  fb : SqB u X.K H0 b ys
  base : Same H0 H
  free : ∀ e ∈ [z, m, n, c, d], FpOk X pins H e
  zs : Zs s.heap H z m n
  tm : IsTupOf2 s.heap m (.ref c) (.ref d)
  i1 : ItB t s.heap c a i
  i2 : ItB u s.heap d b i
section
variable {X : Cx} {pins : List (Addr × Obj)} {σ : L2.St} {t u : Bool} {a b z m n c d : Addr} {xs ys : List V} {H0 H : Hp} {i : Nat} {s : Shared} {A : Around} {E : Value → Shared → Prop}
theorem Lz.obj (L : Lz X pins σ t u a b xs ys z m n c d H0 i H s) : ∀ e ∈ [z, m, n, c, d], e = n ∨ ∃ o, s.heap.get? e = some o := fun e he => by
  simp only [List.mem_cons, List.not_mem_nil, or_false] at he
  rcases he with rfl | rfl | rfl | rfl | rfl
  · rcases L.zs with ⟨k, _⟩ | ⟨T, f, x, y, k, _⟩
    · exact .inr ⟨_, k⟩
    · exact .inr ⟨_, k⟩
  · exact .inr ⟨_, L.tm⟩
  · exact .inl rfl
  · obtain ⟨o, k, _⟩ := L.i1.ob; exact .inr ⟨o, k⟩
  · obtain ⟨o, k, _⟩ := L.i2.ob; exact .inr ⟨o, k⟩
theorem tup_live (I : Inv X pins σ H s) {T : Addr} {x y : V} (h : H T = some (.tup [x, y])) : ∃ o, s.heap.get? T = some o := by
  obtain ⟨_, its, _, o, e, _⟩ := I.hok _ _ h
  exact ⟨o, e⟩
theorem Lz.item {Q : Option Value → Shared → Prop} {x y : V} (L : Lz X pins σ t u a b xs ys z m n c d H0 i H s) (hA : A.handled = none) (D : ZipSep2 z m n c d [c, a] [d, b]) (na : a ≠ c) (nb : b ≠ d) (ln : n < s.heap.objs.size) (ex : xs[i]? = some x) (ey : ys[i]? = some y)
    (q : ∀ T s', H T = none → n < s'.heap.objs.size → Lz X pins σ t u a b xs ys z m n c d H0 (i + 1) (upd H T (.tup [x, y])) s' → Q (some (.ref T)) s') : wpAny (model X.prog X.w) A (pyNext (.ref z)) Q E s := by
  obtain ⟨is, rx, px⟩ := (L.fa.same L.base).read L.inv
  obtain ⟨js, ry, py⟩ := (L.fb.same L.base).read L.inv
  obtain ⟨v1, e1, r1⟩ := rx.get ex
  obtain ⟨v2, e2, r2⟩ := ry.get ey
  have b1 : i < is.toArray.size := by simpa using (List.getElem?_eq_some_iff.mp e1).1
  have b2 : i < js.toArray.size := by simpa using (List.getElem?_eq_some_iff.mp e2).1
  have fr : H s.heap.objs.size = none := L.inv.hok.fresh (Nat.le_refl _)
  have lt : ∀ e ∈ [z, m, n, c, d], e < s.heap.objs.size := fun e he => by
    rcases L.obj e he with rfl | ⟨o, k⟩
    · exact ln
    · exact Heap.lt_size k
  have zc : c ≠ z := fun e => D.zi1 e.symm
  have zd : d ≠ z := fun e => D.zi2 e.symm
  have fin : ∀ (w1 w2 : Value) (h' : Heap) (tk : Nat), is.toArray[i]? = some w1 → js.toArray[i]? = some w2 → Zs h' (upd H s.heap.objs.size (.tup [x, y])) z m n → ItB t h' c a (i + 1) → ItB u h' d b (i + 1) → IsTupOf2 h' s.heap.objs.size w1 w2 →
      (∀ e o, e ≠ z → e ≠ n → e ≠ c → e ≠ d → s.heap.get? e = some o → h'.get? e = some o) → Q (some (.ref s.heap.objs.size)) { s with heap := h', toks := tk } := fun w1 w2 h' tk g1 g2 z' s1 s2 nw hk => by
    have c1 : w1 = v1 := Option.some.inj (g1.symm.trans (by simpa using e1))
    have c2 : w2 = v2 := Option.some.inj (g2.symm.trans (by simpa using e2))
    subst c1 c2
    have ok : ObjOk X.prog X.w (upd H s.heap.objs.size (.tup [x, y])) h' s.heap.objs.size (.tup [x, y]) := ⟨by show 2 ≤ sizeLine; decide, [w1, w2], .cons r1 (.cons r2 .nil), ⟨_, nw, rfl, _, rfl⟩⟩
    have I1 : Inv X pins σ (upd H s.heap.objs.size (.tup [x, y])) { s with heap := h', toks := tk } := by
      refine L.inv.turnedNew (t' := tk) (ch := [z, m, n, c, d]) (fun e o he k => ?_) L.free (Nat.le_refl _) ok
      simp only [List.mem_cons, List.not_mem_nil, or_false, not_or] at he
      exact hk e o he.1 he.2.2.1 he.2.2.2.1 he.2.2.2.2 k
    refine q _ _ fr (Nat.lt_trans ln (Heap.lt_size nw)) ⟨I1, L.fa, L.fb, L.base.trans (same_new fr _), fun e he => ⟨?_, (L.free e he).2⟩, z', hk _ _ D.TIz D.TITO D.TIi1 D.TIi2 L.tm, s1, s2⟩
    rw [upd_ne (Nat.ne_of_lt (lt e he))]
    exact (L.free e he).1
  rcases L.zs with ⟨k, x0, y0, k0⟩ | ⟨T, f, x0, y0, k, k0⟩
  · refine wpAny_pyNext_zipD2_item D (drB t (A := A.in1) hA c a na is.toArray) (drB u (A := A.in1) hA d b nb js.toArray) k L.tm k0 ⟨L.i1, px⟩ ⟨L.i2, py⟩ b1 b2 ?_
    intro w1 w2 h' tk p1 p2 z' n' s1 s2 nw hsz hk
    exact fin w1 w2 h' tk p1 p2 (.inr ⟨s.heap.objs.size, false, x, y, z', upd_same⟩) s1.1 s2.1 nw hk
  · obtain ⟨oT, kT⟩ := tup_live L.inv k0
    refine zh_item D (drB t (A := A.in1) hA c a na is.toArray) (drB u (A := A.in1) hA d b nb js.toArray) k kT L.tm ⟨L.i1, px⟩ ⟨L.i2, py⟩ b1 b2 ?_
    intro w1 w2 h' tk p1 p2 z' s1 s2 nw hk
    refine fin w1 w2 h' tk p1 p2 (.inr ⟨T, true, x0, y0, z', ?_⟩) s1.1 s2.1 nw fun e o q1 _ q3 q4 => hk e o q1 q3 q4
    rw [upd_ne (ne_of_none k0 fr)]
    exact k0
theorem Lz.over {Q : Option Value → Shared → Prop} (L : Lz X pins σ t u a b xs ys z m n c d H0 i H s) (hA : A.handled = none) (D : ZipSep2 z m n c d [c, a] [d, b]) (na : a ≠ c) (nb : b ≠ d) (l1 : i ≤ xs.length) (l2 : i ≤ ys.length) (l3 : xs.length = i ∨ ys.length = i)
    (q : ∀ s', Inv X pins σ H s' → Q none s') : wpAny (model X.prog X.w) A (pyNext (.ref z)) Q E s := by
  obtain ⟨is, rx, px⟩ := (L.fa.same L.base).read L.inv
  obtain ⟨js, ry, py⟩ := (L.fb.same L.base).read L.inv
  have g1 := rx.length
  have g2 := ry.length
  have o1 : i ≤ is.toArray.size := by rw [List.size_toArray]; omega
  have o2 : i ≤ js.toArray.size := by rw [List.size_toArray]; omega
  have o3 : i = is.toArray.size ∨ i = js.toArray.size := by rw [List.size_toArray, List.size_toArray]; omega
  have fin : ∀ (h' : Heap) (tk : Nat), (∀ e o, e ≠ z → e ≠ n → e ≠ c → e ≠ d → s.heap.get? e = some o → h'.get? e = some o) → Q none { s with heap := h', toks := tk } := fun h' tk hk => by
    refine q _ (L.inv.turnedL (t' := tk) (ch := [z, m, n, c, d]) (fun e o he k => ?_) L.free)
    simp only [List.mem_cons, List.not_mem_nil, or_false, not_or] at he
    exact hk e o he.1 he.2.2.1 he.2.2.2.1 he.2.2.2.2 k
  rcases L.zs with ⟨k, x0, y0, k0⟩ | ⟨T, f, x0, y0, k, k0⟩
  · exact wpAny_pyNext_zipD2_end D (drB t (A := A.in1) hA c a na is.toArray) (drB u (A := A.in1) hA d b nb js.toArray) k L.tm k0 ⟨L.i1, px⟩ ⟨L.i2, py⟩ o1 o2 o3 fun h' tk hk => fin h' tk hk
  · obtain ⟨oT, kT⟩ := tup_live L.inv k0
    exact zh_end D (drB t (A := A.in1) hA c a na is.toArray) (drB u (A := A.in1) hA d b nb js.toArray) k kT L.tm ⟨L.i1, px⟩ ⟨L.i2, py⟩ o1 o2 o3 fun h' tk hk => fin h' tk fun e o q1 _ q3 q4 => hk e o q1 q3 q4
/-- the list grows -/
theorem Lz.push (L : Lz X pins σ t u a b xs ys z m n c d H0 i H s) {S : Addr} {vs : List V} {v : V} {w1 : Value} (h0 : H0 S = none) (hS : H S = some (.lst vs)) (rv : RelV v w1) (hz : vs.length < sizeLine) (no : ∀ p x y, H p = some (.tup [x, y]) → p ≠ S) {its : List Value} {k : Nat} (e : s.heap.get? S = some { cls := .type "list", data := .seq its.toArray k }) (r : Vals vs its) :
    Lz X pins σ t u a b xs ys z m n c d H0 i (upd H S (.lst (vs ++ [v]))) { s with heap := s.heap.update S (Obj.mapSeq (·.push w1)) } := by
  have ne : ∀ q ∈ [z, m, n, c, d], q ≠ S := fun q hq z' => by
    have := (L.free q hq).1
    rw [z', hS] at this
    cases this
  have up : ∀ q o, q ≠ S → s.heap.get? q = some o → (s.heap.update S (Obj.mapSeq (·.push w1))).get? q = some o := fun q o h k => (Heap.get?_update_other _ _ (Ne.symm h)).trans k
  refine ⟨L.inv.lset (its' := its ++ [w1]) (t' := s.toks) hS e (by simp) (r.append (.cons rv .nil)) (by rw [List.length_append, List.length_singleton]; omega), L.fa, L.fb, fun q o k => ?_, fun q hq => ⟨?_, (L.free q hq).2⟩, ?_, up _ _ (ne m (by simp)) L.tm, L.i1.up fun o k => up _ o (ne c (by simp)) k, L.i2.up fun o k => up _ o (ne d (by simp)) k⟩
  · rw [upd_ne (ne_of_none k h0)]
    exact L.base q o k
  · rw [upd_ne (ne q hq)]
    exact (L.free q hq).1
  · rcases L.zs with ⟨j, x0, y0, j0⟩ | ⟨T, f, x0, y0, j, j0⟩
    · exact .inl ⟨up _ _ (ne z (by simp)) j, x0, y0, up _ _ (ne n (by simp)) j0⟩
    · refine .inr ⟨T, f, x0, y0, up _ _ (ne z (by simp)) j, ?_⟩
      rw [upd_ne (no T x0 y0 j0)]
      exact j0
/-- pairs at new places -/
def Prs (H0 H : Hp) (xs ys : List V) (ps : List Addr) : Prop := ∀ (j : Nat) (p : Addr), ps[j]? = some p → ∃ x y, xs[j]? = some x ∧ ys[j]? = some y ∧ H p = some (.tup [x, y]) ∧ H0 p = none
theorem lz_loop {S : Addr} {Rs : Result → Shared → Prop} (hA : A.handled = none) (D : ZipSep2 z m n c d [c, a] [d, b]) (na : a ≠ c) (nb : b ≠ d) (h0 : H0 S = none) (sx : xs.length ≤ sizeLine) (sy : ys.length ≤ sizeLine)
    (done : ∀ ps H s, Inv X pins σ H s → Same H0 H → H S = some (.lst (ps.map V.ref)) → ps.length = min xs.length ys.length → Prs H0 H xs ys ps → Rs (.ok (.ret .none)) s) :
    ∀ (k i : Nat) (ps : List Addr) (H : Hp) (s : Shared), min xs.length ys.length - i = k → i ≤ min xs.length ys.length → Lz X pins σ t u a b xs ys z m n c d H0 i H s → n < s.heap.objs.size → H S = some (.lst (ps.map V.ref)) → ps.length = i → Prs H0 H xs ys ps →
      codeAny (model X.prog X.w) A (.builtin "list.extend.loop" ⟨[.ref S, .ref z, .none], []⟩) Rs s := by
  intro k
  induction k with
  | zero =>
    intro i ps H s hk hi L ln hS hl pr
    refine codeAny_builtin F.entry_extend_loop (by
      rw [Around.under_plainId F.plain_extend_loop _]
      refine (show wpAny _ A.in1 (pyNext (.ref z) >>= _) _ _ s from wpAny_bind (L.over (A := A.in1) hA D na nb (by omega) (by omega) (by omega) fun s' I' => ?_))
      exact wpAny_pure (done ps H s' I' L.base hS (by omega) pr))
  | succ k ih =>
    intro i ps H s hk hi L ln hS hl pr
    have k1 : i < xs.length := by omega
    have k2 : i < ys.length := by omega
    refine codeAny_builtin F.entry_extend_loop (by
      rw [Around.under_plainId F.plain_extend_loop _]
      refine (show wpAny _ A.in1 (pyNext (.ref z) >>= _) _ _ s from wpAny_bind (L.item (A := A.in1) hA D na nb ln (List.getElem?_eq_getElem k1) (List.getElem?_eq_getElem k2) fun T s' hT ln' L' => ?_))
      have nT : S ≠ T := fun e => by rw [← e, hS] at hT; cases hT
      have hS' : upd H T (.tup [xs[i], ys[i]]) S = some (.lst (ps.map V.ref)) := by rw [upd_ne nT]; exact hS
      obtain ⟨zz, its, j, r, hl2, e⟩ := L'.inv.lstM hS'
      have lv : (ps.map V.ref).length < sizeLine := by rw [List.length_map]; omega
      have L2 := L'.push (v := .ref T) (w1 := .ref T) h0 hS' rfl lv (fun p x y hp z' => by rw [z', hS'] at hp; cases hp) e r
      refine (show wpAny _ A.in1 (updateSeq S (·.push (Value.ref T)) >>= _) _ _ _ from wpAny_bind (wpAny_updateSeq e rfl (wpAny_pure ⟨plainId_quiet F.plain_extend_loop _, ?_⟩) (by rw [List.size_toArray]; omega) (by show (its.toArray.push (Value.ref T)).size ≤ sizeLine + 1; rw [Array.size_push, List.size_toArray]; omega)))
      refine ih (i + 1) (ps ++ [T]) _ _ (by omega) (by omega) L2 ?_ ?_ (by rw [List.length_append, List.length_singleton]; omega) ?_
      · show n < (s'.heap.update S _).objs.size
        rw [Heap.size_update]
        exact ln'
      · rw [upd_same, List.map_append]
        rfl
      · intro q p hq
        rcases Nat.lt_trichotomy q ps.length with h1 | h1 | h1
        · rw [List.getElem?_append_left h1] at hq
          obtain ⟨x, y, g1, g2, g3, g4⟩ := pr q p hq
          refine ⟨x, y, g1, g2, ?_, g4⟩
          rw [upd_ne (fun z' => by rw [z', hS] at g3; cases g3), upd_ne (ne_of_none g3 hT)]
          exact g3
        · subst h1
          have hp : T = p := by simpa using hq
          subst hp
          refine ⟨xs[i], ys[i], by rw [hl]; exact List.getElem?_eq_getElem k1, by rw [hl]; exact List.getElem?_eq_getElem k2, ?_, back_none L.base hT⟩
          rw [upd_ne (Ne.symm nT), upd_same]
        · rw [List.getElem?_eq_none (by rw [List.length_append, List.length_singleton]; omega)] at hq
          cases hq)
end
end Ov

set_option Elab.async false
set_option linter.all false
set_option maxRecDepth 100000
set_option maxHeartbeats 4000000
namespace Ov
open PySem L2 PySem.Spec PyProof.Rows
theorem z_len : typeLookup (.type "zip") "__len__" = pure none := am_miss_of_fast (by decide +kernel)
theorem z_hint : typeLookup (.type "zip") "__length_hint__" = pure none := am_miss_of_fast (by decide +kernel)
section
variable {X : Cx} {pins : List (Addr × Obj)} {σ : L2.St} {t u : Bool} {a b z m n c d : Addr} {xs ys : List V} {H0 H : Hp} {i : Nat} {s : Shared} {A : Around} {E : Value → Shared → Prop}
theorem Lz.ty (L : Lz X pins σ t u a b xs ys z m n c d H0 i H s) : s.TypeIs (.ref z) "zip" := by
  rcases L.zs with ⟨k, _⟩ | ⟨T, f, x, y, k, _⟩
  · exact ⟨_, k, rfl⟩
  · exact ⟨_, k, rfl⟩
/-- another state of the list -/
theorem Lz.at {S : Addr} {vs : List V} (L : Lz X pins σ t u a b xs ys z m n c d H0 i H s) (hS : H S = some (.lst vs)) {s' : Shared} (I' : Inv X pins σ H s') (k : ∀ q o, q ≠ S → s.heap.get? q = some o → s'.heap.get? q = some o) : Lz X pins σ t u a b xs ys z m n c d H0 i H s' := by
  have ne : ∀ q ∈ [z, m, n, c, d], q ≠ S := fun q hq e => by
    have := (L.free q hq).1
    rw [e, hS] at this
    cases this
  refine ⟨I', L.fa, L.fb, L.base, L.free, ?_, k _ _ (ne m (by simp)) L.tm, L.i1.up fun o e => k _ o (ne c (by simp)) e, L.i2.up fun o e => k _ o (ne d (by simp)) e⟩
  rcases L.zs with ⟨j, x0, y0, j0⟩ | ⟨T, f, x0, y0, j, j0⟩
  · exact .inl ⟨k _ _ (ne z (by simp)) j, x0, y0, k _ _ (ne n (by simp)) j0⟩
  · exact .inr ⟨T, f, x0, y0, k _ _ (ne z (by simp)) j, j0⟩
theorem upd_self {H : Hp} {q : Addr} {o : HO} (h : H q = some o) : upd H q o = H := by
  funext e
  by_cases k : e = q
  · rw [k, upd_same, h]
  · exact upd_ne k
theorem lz_extend {S : Addr} {Rs : Result → Shared → Prop} (hA : A.handled = none) (D : ZipSep2 z m n c d [c, a] [d, b]) (na : a ≠ c) (nb : b ≠ d) (h0 : H0 S = none) (sx : xs.length ≤ sizeLine) (sy : ys.length ≤ sizeLine)
    (done : ∀ ps H s, Inv X pins σ H s → Same H0 H → H S = some (.lst (ps.map V.ref)) → ps.length = min xs.length ys.length → Prs H0 H xs ys ps → Rs (.ok (.ret .none)) s)
    (L : Lz X pins σ t u a b xs ys z m n c d H0 0 H s) (ln : n < s.heap.objs.size) (hS : H S = some (.lst [])) :
    wpAny (model X.prog X.w) A.in1 (Builtin.List.listExtendWith (.ref S) (.ref z) .none) (fun fin s' => match fin with | .done f => Rs (.ok f) s' | .again c' => c'.quiet = true ∧ codeAny (model X.prog X.w) A c' Rs s') (fun e s' => Rs (.error e) s') s := by
  have hne : S ≠ z := fun e => by
    have := (L.free z (by simp)).1
    rw [← e, hS] at this
    cases this
  unfold Builtin.List.listExtendWith
  refine wpAny_bind (wpAny_typeOf L.ty ?_)
  rw [show Builtin.List.listSameRef (.ref S) (.ref z) = false by simp [Builtin.List.listSameRef, hne], show (Value.type "zip" == Value.type "list") = false by decide, show (Value.type "zip" == Value.type "tuple") = false by decide]
  simp only [Bool.or_false, Bool.false_eq_true, if_false]
  have itr : ∀ {Q : Value → Shared → Prop} {E : Value → Shared → Prop}, Q (.ref z) s → wpAny (model X.prog X.w) A.in1 (pyIter (.ref z)) Q E s := fun h => by
    rcases L.zs with ⟨k, _⟩ | ⟨T, f, x, y, k, k0⟩
    · exact wpAny_pyIter_zip k h
    · have ty := L.ty
      refine wpAny_pyIter_slot ty F.slot_zip_iter (wpAny_call_entry F.slot_zip_iter ty F.entry_zip_iter ?_ (F.args_zip_iter_1 _))
      exact (show wpAny _ _ (ret (.ref z)) _ _ s from wpAny_pure ⟨_, rfl, "zip", _, ty, F.slot_zip_next.lookup, h⟩)
  refine wpAny_bind (itr (wpAny_bind (wpAny_holding ?_)))
  unfold Builtin.List.listLengthHint
  refine wpAny_bind (wpAny_specialOf L.ty z_len (show wpAny _ _ (specialOf (Value.ref z) (Str.ofString "__length_hint__") >>= _) _ _ _ from wpAny_bind (wpAny_specialOf L.ty z_hint (wpAny_pure ?_))))
  refine (show wpAny _ A.in1 (rule "list.extend.makes-room" >>= fun _ => Builtin.List.listTouch (.ref S) >>= fun _ => again (.builtin "list.extend.loop" ⟨[.ref S, .ref z, .none], []⟩)) _ _ _ from wpAny_bind (wpAny_rule (wpAny_bind ?_)))
  obtain ⟨zz, its, k, r, hl, e⟩ := L.inv.lstM hS
  cases r
  refine (show wpAny _ A.in1 (updateSeq S (·.push .none) >>= fun _ => updateSeq S (·.pop)) _ _ _ from wpAny_bind (wpAny_updateSeq e rfl ?_))
  have J := L.inv.lset (f := (·.push Value.none)) (its' := [Value.none]) (ys := [.non]) (t' := s.toks) hS e (by simp) (.cons rfl .nil) (by rw [List.length_singleton, sizeLine_eq]; decide)
  obtain ⟨z4, its4, k4, r4, hl4, e4⟩ := J.lstM upd_same
  obtain ⟨u4, rfl, ru4⟩ := r4.one
  refine wpAny_updateSeq e4 rfl ?_ (by show 1 ≤ sizeLine; rw [sizeLine_eq]; decide) (by show 0 ≤ sizeLine + 1; exact Nat.zero_le _)
  have J3 := J.lset (f := (·.pop)) (its := [u4]) (its' := []) (ys := []) (t' := s.toks) upd_same e4 (by rfl) .nil (Nat.zero_le _)
  rw [upd_upd, upd_self hS] at J3
  refine wpAny_pure ⟨plainId_quiet F.plain_extend_loop _, lz_loop hA D na nb h0 sx sy done _ 0 [] H _ rfl (Nat.zero_le _) (L.at hS J3 fun q o hq f => (Heap.get?_update_other _ _ (Ne.symm hq)).trans ((Heap.get?_update_other _ _ (Ne.symm hq)).trans f)) ?_ hS rfl fun j p hp => ?_⟩
  · show n < ((s.heap.update S _).update S _).objs.size
    rw [Heap.size_update, Heap.size_update]
    exact ln
  · cases j <;> cases hp
def tLZ (K : PySem.W.Frag) (ta : TA) : TE := fun σ H Q => ta σ H fun vs H1 => ∃ (t u : Bool) (a b : Addr) (xs ys : List V), vs = [.ref a, .ref b] ∧ SqB t K H1 a xs ∧ SqB u K H1 b ys ∧
  ∀ (S : Addr) (ps : List Addr) (H' : Hp), Same H1 H' → H1 S = none → H' S = some (.lst (ps.map V.ref)) → ps.length = min xs.length ys.length → Prs H1 H' xs ys ps → Q (.ref S) H'
theorem SqB.sz {H : Hp} {t : Bool} {a : Addr} {xs : List V} (I : Inv X pins σ H s) (h : SqB t X.K H a xs) : xs.length ≤ sizeLine := by
  cases t with
  | true => obtain ⟨_, _, _, z⟩ := I.tuple h; exact z
  | false => obtain ⟨_, _, _, z⟩ := I.list h; exact z
theorem pe_LZ {e1 e2 : Expr} {ta : TA} {p0 p1 p2 p3 : Pos} (calm : X.calm = true) (gl : Gl X "list") (un : X.mg "list" = none) (gl2 : Gl X "zip") (un2 : X.mg "zip" = none) (ha : PA X [e1, e2] ta)
    (st : starEach [e1, e2] X.env = (false, eval e1 X.env) :: starEach [e2] X.env := by rfl) (pl : (backTo p1 (starEach [e2] X.env)).any (·.1) = false := by rfl)
    (st2 : starEach [.Call (.Name "zip" p0) [e1, e2] [] p1] X.env = (false, eval (.Call (.Name "zip" p0) [e1, e2] [] p1) X.env) :: starEach [] X.env := by rfl) :
    PE X (.Call (.Name "list" p2) [.Call (.Name "zip" p0) [e1, e2] [] p1] [] p3) (tLZ X.K ta) := by
  refine ⟨fun pins s σ H Q I h => ?_⟩
  refine Call_ (ld_blt I gl un PyProof.Rows.boot_list (callWith_type1 (args_cons (Call_ (ld_blt I gl2 un2 boot_zip (callWith_type1 (thn (ha.run p1 pins s σ H _ I h) ?_) st pl))) st2) st2 rfl))
  rintro us s1 ⟨vs, H1, J, rel, t, u, a, b, xs, ys, rfl, hX, hY, q⟩
  obtain ⟨v1, v2, rfl, r1, r2⟩ : ∃ v1 v2, us = [v1, v2] ∧ v1 = Value.ref a ∧ v2 = Value.ref b := by
    cases rel with
    | cons r rr => cases rr with | cons r' rr => cases rr; exact ⟨_, _, rfl, r, r'⟩
  subst r1 r2
  obtain ⟨is, _, px⟩ := hX.read J
  obtain ⟨js, _, py⟩ := hY.read J
  have la := px.lt
  have lb := py.lt
  refine zip_begins2 (bgB t a is.toArray) (bgB u b js.toArray) px py fun h' z m n c d hsz hk => args_nil ?_
  have J2 : Inv X pins σ H1 { s1 with heap := h' } := J.kept (t' := s1.toks) hk
  have sep : ZipSep2 (s1.heap.objs.size + 4) (s1.heap.objs.size + 2) (s1.heap.objs.size + 3) s1.heap.objs.size (s1.heap.objs.size + 1) [s1.heap.objs.size, a] [s1.heap.objs.size + 1, b] := zip_sep2 (fp1 := [a]) (fp2 := [b]) (fun e he => by rw [List.mem_singleton.mp he]; exact la) (fun e he => by rw [List.mem_singleton.mp he]; exact lb)
  have free : ∀ e ∈ [s1.heap.objs.size + 4, s1.heap.objs.size + 2, s1.heap.objs.size + 3, s1.heap.objs.size, s1.heap.objs.size + 1], FpOk X pins H1 e := fun e he => by
    have le : s1.heap.objs.size ≤ e := by
      simp only [List.mem_cons, List.not_mem_nil, or_false] at he
      rcases he with rfl | rfl | rfl | rfl | rfl
      · exact Nat.le_add_right _ _
      · exact Nat.le_add_right _ _
      · exact Nat.le_add_right _ _
      · exact Nat.le_refl _
      · exact Nat.le_add_right _ _
    exact J.fpOk le (J.hok.fresh le)
  have fr : H1 h'.objs.size = none := J2.hok.fresh (Nat.le_refl _)
  refine callType_codes (Q₁ := fun obj s₁ => obj = .ref h'.objs.size ∧ s₁ = { s1 with heap := h'.push { cls := .type "list", data := .seq #[] } }) F.called_list (F.typeCall_list_1 _) F.entry_list_init (code_list_new _ ⟨rfl, rfl⟩) ?_
  rintro obj s₁ ⟨rfl, rfl⟩
  have gS : (h'.push { cls := .type "list", data := .seq #[] }).get? h'.objs.size = some { cls := .type "list", data := .seq #[] } := Heap.get?_push_size _ rfl
  have J3 : Inv X pins σ (upd H1 h'.objs.size (.lst [])) { s1 with heap := h'.push { cls := .type "list", data := .seq #[] } } := J2.lnew (its := []) (t' := s1.toks) .nil (Nat.zero_le _)
  have J4 := J3.lset (f := fun _ => #[]) (its := []) (its' := []) (ys := []) (t' := s1.toks) upd_same gS rfl .nil (Nat.zero_le _)
  rw [upd_upd] at J4
  have up : ∀ e o, h'.get? e = some o → ((h'.push { cls := .type "list", data := .seq #[] }).update h'.objs.size (Obj.mapSeq fun _ => #[])).get? e = some o := fun e o k => (Heap.get?_update_other _ _ (Nat.ne_of_gt (Heap.lt_size k))).trans (Heap.get?_push_of_some _ k)
  have L : Lz X pins σ t u a b xs ys (s1.heap.objs.size + 4) (s1.heap.objs.size + 2) (s1.heap.objs.size + 3) s1.heap.objs.size (s1.heap.objs.size + 1) H1 0 (upd H1 h'.objs.size (.lst [])) { s1 with heap := (h'.push { cls := .type "list", data := .seq #[] }).update h'.objs.size (Obj.mapSeq fun _ => #[]) } := by
    refine ⟨J4, hX, hY, same_new fr _, fun e he => ⟨?_, (free e he).2⟩, .inl ⟨up _ _ z, _, _, up _ _ n⟩, up _ _ m, .new (up _ _ c), .new (up _ _ d)⟩
    have lt : e < h'.objs.size := by
      rw [hsz]
      simp only [List.mem_cons, List.not_mem_nil, or_false] at he
      rcases he with rfl | rfl | rfl | rfl | rfl
      · exact Nat.lt_succ_self _
      · exact Nat.add_lt_add_left (by decide) _
      · exact Nat.add_lt_add_left (by decide) _
      · exact Nat.lt_add_of_pos_right (by decide)
      · exact Nat.add_lt_add_left (by decide) _
    rw [upd_ne (Nat.ne_of_lt lt)]
    exact (free e he).1
  refine ⟨⟨_, gS, rfl⟩, F.args_list_init_2 _ _, ?_⟩
  refine (show wpAny _ _ (do let old ← Builtin.List.listItems (.ref h'.objs.size); Builtin.List.listUpdate (.ref h'.objs.size) (fun _ => #[]); letGo old.toList.reverse; Builtin.List.listExtendWith (.ref h'.objs.size) (.ref (s1.heap.objs.size + 4)) .none) _ _ _ from wpAny_bind ?_)
  unfold Builtin.List.listItems
  refine wpAny_bind (wpAny_seqItems gS rfl (wpAny_pure ?_))
  refine (show wpAny _ _ (updateSeq h'.objs.size (fun _ => #[]) >>= fun _ => letGo (#[] : Array Value).toList.reverse >>= fun _ => Builtin.List.listExtendWith (.ref h'.objs.size) (.ref (s1.heap.objs.size + 4)) .none) _ _ _ from wpAny_bind (wpAny_updateSeq gS rfl (wpAny_bind (wpAny_letGo ?_))))
  refine lz_extend (A := X.A.in1) (Rs := wants (fun r s₂ => r = .none ∧ EP X pins σ Q (.ref h'.objs.size) s₂) X.xe) (J.ok.hd calm) sep (Nat.ne_of_lt la) (Nat.ne_of_lt (Nat.lt_succ_of_lt lb)) fr (hX.sz J) (hY.sz J) (fun ps H2 s2 I2 sm hS hl pr => ⟨rfl, .ref h'.objs.size, H2, I2, rfl, q _ ps H2 sm fr hS hl pr⟩) L ?_ upd_same
  exact Heap.lt_size (up _ _ n)
end
end Ov

set_option Elab.async false
set_option linter.all false
set_option maxRecDepth 100000
set_option maxHeartbeats 4000000
namespace Ov
open PySem L2
theorem units65 {k : Nat} {A : Around} (r : Room k A) : A.units + 65 < cLine := by have := r.un; omega
section
variable {K : PySem.W.Frag} {E : XK}
def lzE (fa : M (List R)) : M R := M.bind (argI zipM fa) fun ds => M.pure (.dat (.list ds))
theorem argI_bind {α : Type} {fo : List PyData → Option (List PyData)} {fa : M (List R)} {g : List PyData → M α} {env : En} : (M.bind (argI fo fa) g) env = (M.bind fa fun rs => M.bind (lift (dds rs)) fun ds => M.bind (lift (fo ds)) g) env := by
  unfold argI M.bind
  cases fa env with
  | none => rfl
  | some r => cases r with
    | ok a e =>
      simp only
      cases lift (dds a) e with
      | none => rfl
      | some r2 => cases r2 <;> rfl
    | ex _ _ _ => rfl
theorem prs_da {S : Addr → Prop} {H1 H' : Hp} (hs : ∀ b, S b → ∃ o, H1 b = some o ∧ NT o) (sm : Same H1 H') : ∀ {xs ys : List V} {ds es : List PyData} {ps : List Addr}, DaAll K (off S H1) xs ds → DaAll K (off S H1) ys es → ps.length = min xs.length ys.length → Prs H1 H' xs ys ps → DaAll K (off S H') (ps.map V.ref) (pairUp ds es)
  | [], ys, ds, es, ps, ha, hb, hl, pr => by
    cases ha
    cases ps with
    | nil => exact .nil
    | cons p r => simp at hl
  | x0 :: xs, ys, ds, es, ps, ha, hb, hl, pr => by
    cases ha with
    | cons h t =>
      cases hb with
      | nil =>
        cases ps with
        | nil => exact .nil
        | cons p r => simp at hl
      | cons h' t' =>
        cases ps with
        | nil => simp at hl
        | cons p r =>
          obtain ⟨x, y, e1, e2, e3, e4⟩ := pr 0 p rfl
          cases e1
          cases e2
          have k : Same (off S H1) (off S H') := off_mono (fun b z n => absurd z n) fun b o _ e => sm b o e
          have np : ¬ S p := fun z => by
            obtain ⟨o, e, _⟩ := hs p z
            rw [e4] at e
            cases e
          refine .cons (.tup (off_tup np e3) (.cons (Da.same k _ h) (.cons (Da.same k _ h') .nil))) (prs_da hs sm t t' ?_ fun j q hq => ?_)
          · simp at hl; omega
          · obtain ⟨x, y, e1, e2, e3, e4⟩ := pr (j + 1) q hq
            exact ⟨x, y, e1, e2, e3, e4⟩
theorem OkE.LZ {t : TA} {fa : M (List R)} (o : OkA K E t fa) : OkE K E (tLZ K t) (lzE fa) := by
  refine ⟨?_⟩
  intro B σ H env l rs rp h Q post
  unfold lzE at h
  rw [argI_bind] at h
  refine o.seq rp h post.exn fun a e v H1 h1 r1 f1 q1 => ?_
  obtain ⟨ds, h2, h3⟩ := lift_step h1
  obtain ⟨out, h4, h5⟩ := lift_step h3
  cases h5
  have da := dds_ok q1 h2
  unfold zipM at h4
  split at h4
  · obtain ⟨es, e1, e2⟩ := Option.bind_eq_some_iff.mp h4
    obtain ⟨gs, e3, e4⟩ := Option.map_eq_some_iff.mp e2
    subst e4
    cases da with
    | cons d1 t1 =>
      cases t1 with
      | cons d2 t2 =>
        cases t2
        obtain ⟨k1, p, ws, rfl, qa, ha⟩ := da_sq d1 e1
        obtain ⟨k2, p', ws', rfl, qb, hb⟩ := da_sq d2 e3
        refine ⟨k1, k2, p, p', ws, ws', rfl, qa.same (off_sub _ _), qb.same (off_sub _ _), fun S ps H' sm nS hS hl pr => post _ H' (r1.same sm) (f1.trans (Fr.of sm)) ?_⟩
        refine .lst (SqL.of ((off_ne (r1.fresh nS)).trans hS)) (prs_da r1.tl sm ha hb hl pr)
  · cases h4
end
section
variable {X : Cx} {K : PySem.W.Frag} (hK : X.K = K)
include hK
theorem k_LZ {e1 e2 : Expr} {ta : TA} {p0 p1 p2 p3 : Pos} (calm : X.calm = true) (gl : Gl X "list") (un : X.mg "list" = none) (gl2 : Gl X "zip") (un2 : X.mg "zip" = none) (ha : PA X [e1, e2] ta)
    (st : starEach [e1, e2] X.env = (false, eval e1 X.env) :: starEach [e2] X.env := by rfl) (pl : (backTo p1 (starEach [e2] X.env)).any (·.1) = false := by rfl)
    (st2 : starEach [.Call (.Name "zip" p0) [e1, e2] [] p1] X.env = (false, eval (.Call (.Name "zip" p0) [e1, e2] [] p1) X.env) :: starEach [] X.env := by rfl) :
    PE X (.Call (.Name "list" p2) [.Call (.Name "zip" p0) [e1, e2] [] p1] [] p3) (tLZ K ta) := by subst hK; exact pe_LZ calm gl un gl2 un2 ha st pl st2
end
end Ov

set_option Elab.async false
set_option linter.all false
set_option maxRecDepth 100000
set_option maxHeartbeats 4000000
namespace Ov
open PySem L2 PySem.Spec PyProof.Rows
/-! zip of three sequences, each a list or a tuple -/
def ItzC (t u o : Bool) (K : PySem.W.Frag) (a b g : Addr) : It where
  go := fun i H => ∃ (xs ys zs : List V) (x y r : V), SqB t K H a xs ∧ SqB u K H b ys ∧ SqB o K H g zs ∧ xs[i]? = some x ∧ ys[i]? = some y ∧ zs[i]? = some r
  yld := fun i H v H' => ∃ p x y r, v = .ref p ∧ H p = none ∧ H' = upd H p (.tup [x, y, r]) ∧ (∀ xs, SqB t K H a xs → xs[i]? = some x) ∧ (∀ ys, SqB u K H b ys → ys[i]? = some y) ∧ ∀ zs, SqB o K H g zs → zs[i]? = some r
  stop := fun i H => ∃ xs ys zs : List V, SqB t K H a xs ∧ SqB u K H b ys ∧ SqB o K H g zs ∧ i ≤ xs.length ∧ i ≤ ys.length ∧ i ≤ zs.length ∧ (xs.length = i ∨ ys.length = i ∨ zs.length = i)
theorem turn_zipC {P : Program} {w : World} {K : PySem.W.Frag} {tgs : List Expr} {kk : Nat} {tp : Pos} {t u o : Bool} {a b g z m n c d e3 : Addr} (D : ZipSep3 z m n c d e3 [c, a] [d, b] [e3, g]) (na : a ≠ c) (nb : b ≠ d) (ng : g ≠ e3) :
    Turn P w K (.Tuple tgs kk tp) (ItzC t u o K a b g) [z, m, n, c, d, e3] z (fun i h => IsZip h z m n .none ∧ IsTupOf3 h m (.ref c) (.ref d) (.ref e3) ∧ (∃ x y r, IsTupOf3 h n x y r) ∧ ItB t h c a i ∧ ItB u h d b i ∧ ItB o h e3 g i) where
  mem := by simp
  obj := fun i h st e he => by
    obtain ⟨q1, q2, ⟨x, y, r, q3⟩, q4, q5, q6⟩ := st
    simp only [List.mem_cons, List.not_mem_nil, or_false] at he
    rcases he with rfl | rfl | rfl | rfl | rfl | rfl
    · exact ⟨_, q1, fun v r => nomatch r⟩
    · exact ⟨_, q2, fun v r => nomatch r⟩
    · exact ⟨_, q3, fun v r => nomatch r⟩
    · exact q4.ob
    · exact q5.ob
    · exact q6.ob
  keep := fun i h h' st k => by
    obtain ⟨q1, q2, ⟨x, y, r, q3⟩, q4, q5, q6⟩ := st
    exact ⟨k _ (by simp) _ q1, k _ (by simp) _ q2, ⟨x, y, r, k _ (by simp) _ q3⟩, q4.up fun o e => k _ (by simp) o e, q5.up fun o e => k _ (by simp) o e, q6.up fun o e => k _ (by simp) o e⟩
  item := by
    intro X eP ew eK calm i pins s σ H E I ff st hg
    subst eP ew eK
    obtain ⟨q1, q2, ⟨x0, y0, r0, q3⟩, q4, q5, q6⟩ := st
    obtain ⟨xs, ys, zs, x, y, r, hX, hY, hZ, ex, ey, ez⟩ := hg
    obtain ⟨is, rx, px⟩ := hX.read I
    obtain ⟨js, ry, py⟩ := hY.read I
    obtain ⟨ks, rz, pz⟩ := hZ.read I
    obtain ⟨v1, e1, r1⟩ := rx.get ex
    obtain ⟨v2, e2, r2⟩ := ry.get ey
    obtain ⟨v3, e4, r3⟩ := rz.get ez
    have lz : z < s.heap.objs.size := Heap.lt_size q1
    have no := I.ok.hd calm
    have b1 : i < is.toArray.size := by simpa using (List.getElem?_eq_some_iff.mp e1).1
    have b2 : i < js.toArray.size := by simpa using (List.getElem?_eq_some_iff.mp e2).1
    have b3 : i < ks.toArray.size := by simpa using (List.getElem?_eq_some_iff.mp e4).1
    refine wpAny_pyNext_zipD3_item D (drB t (A := X.A.in1) no c a na is.toArray) (drB u (A := X.A.in1) no d b nb js.toArray) (drB o (A := X.A.in1) no e3 g ng ks.toArray) q1 q2 q3 ⟨q4, px⟩ ⟨q5, py⟩ ⟨q6, pz⟩ b1 b2 b3 ?_
    intro w1 w2 w3 h' tk p1 p2 p3 z' n' s1 s2 s3 nw hsz hk
    have c1 : w1 = v1 := Option.some.inj ((show is.toArray[i]? = some w1 from p1).symm.trans (by simpa using e1))
    have c2 : w2 = v2 := Option.some.inj ((show js.toArray[i]? = some w2 from p2).symm.trans (by simpa using e2))
    have c3 : w3 = v3 := Option.some.inj ((show ks.toArray[i]? = some w3 from p3).symm.trans (by simpa using e4))
    subst c1 c2 c3
    refine ⟨_, rfl, wpAny_letOwnedTupleGo_zip (s := { s with heap := h', toks := tk }) z' fun h'' z'' sb => ?_⟩
    have nw2 : h''.get? s.heap.objs.size = some { cls := .type "tuple", data := .seq #[w1, w2, w3] } := (sb.2 _ (Nat.ne_of_gt lz)).trans nw
    have ok : ObjOk X.prog X.w (upd H s.heap.objs.size (.tup [x, y, r])) h'' s.heap.objs.size (.tup [x, y, r]) := ⟨by show 3 ≤ sizeLine; decide, [w1, w2, w3], .cons r1 (.cons r2 (.cons r3 .nil)), ⟨_, nw2, rfl, _, rfl⟩⟩
    have I1 : Inv X pins σ (upd H s.heap.objs.size (.tup [x, y, r])) { s with heap := h'', toks := tk } := by
      refine I.turnedNew (t' := tk) (ch := [z, m, n, c, d, e3]) (fun e o he f => ?_) ff (Nat.le_refl _) ok
      simp only [List.mem_cons, List.not_mem_nil, or_false, not_or] at he
      exact (sb.2 e he.1).trans (hk e o he.1 he.2.2.1 he.2.2.2.1 he.2.2.2.2.1 he.2.2.2.2.2 f)
    have zc : c ≠ z := fun e => D.zi1 e.symm
    have zd : d ≠ z := fun e => D.zi2 e.symm
    have ze : e3 ≠ z := fun e => D.zi3 e.symm
    refine ⟨.ref s.heap.objs.size, _, I1, rfl, ⟨_, x, y, r, rfl, I.hok.fresh (Nat.le_refl _), rfl, fun l hl => by rw [hl.inj I hX]; exact ex, fun l hl => by rw [hl.inj I hY]; exact ey, fun l hl => by rw [hl.inj I hZ]; exact ez⟩, ⟨z'', ?_, ⟨w1, w2, w3, ?_⟩, ?_, ?_, ?_⟩, fun e he => ?_⟩
    · exact (sb.2 _ D.TIz).trans (hk _ _ D.TIz D.TITO D.TIi1 D.TIi2 D.TIi3 q2)
    · exact (sb.2 _ D.TOz).trans n'
    · exact s1.1.up fun o f => (sb.2 _ zc).trans f
    · exact s2.1.up fun o f => (sb.2 _ zd).trans f
    · exact s3.1.up fun o f => (sb.2 _ ze).trans f
    · obtain ⟨o, f, _⟩ : ∃ o, s.heap.get? e = some o ∧ True := by
        simp only [List.mem_cons, List.not_mem_nil, or_false] at he
        rcases he with rfl | rfl | rfl | rfl | rfl | rfl
        · exact ⟨_, q1, trivial⟩
        · exact ⟨_, q2, trivial⟩
        · exact ⟨_, q3, trivial⟩
        · obtain ⟨o, f, _⟩ := q4.ob; exact ⟨o, f, trivial⟩
        · obtain ⟨o, f, _⟩ := q5.ob; exact ⟨o, f, trivial⟩
        · obtain ⟨o, f, _⟩ := q6.ob; exact ⟨o, f, trivial⟩
      rw [upd_ne (Nat.ne_of_lt (Heap.lt_size f))]
      exact (ff e he).1
  done := by
    intro X eP ew eK calm i pins s σ H E I ff st hg
    subst eP ew eK
    obtain ⟨q1, q2, ⟨x0, y0, r0, q3⟩, q4, q5, q6⟩ := st
    obtain ⟨xs, ys, zs, hX, hY, hZ, l1, l2, l3, over⟩ := hg
    obtain ⟨is, rx, px⟩ := hX.read I
    obtain ⟨js, ry, py⟩ := hY.read I
    obtain ⟨ks, rz, pz⟩ := hZ.read I
    have no := I.ok.hd calm
    have g1 := rx.length
    have g2 := ry.length
    have g3 := rz.length
    refine wpAny_pyNext_zipD3_end D (drB t (A := X.A.in1) no c a na is.toArray) (drB u (A := X.A.in1) no d b nb js.toArray) (drB o (A := X.A.in1) no e3 g ng ks.toArray) q1 q2 q3 ⟨q4, px⟩ ⟨q5, py⟩ ⟨q6, pz⟩ (by rw [List.size_toArray]; omega) (by rw [List.size_toArray]; omega) (by rw [List.size_toArray]; omega) ?_ fun h' tk hk => ⟨rfl, ?_⟩
    · rw [List.size_toArray, List.size_toArray, List.size_toArray]
      omega
    · refine I.turnedL (t' := tk) (ch := [z, m, n, c, d, e3]) (fun e o he f => ?_) ff
      simp only [List.mem_cons, List.not_mem_nil, or_false, not_or] at he
      exact hk e o he.1 he.2.2.1 he.2.2.2.1 he.2.2.2.2.1 he.2.2.2.2.2 f
  self := fun A i s Q E st h => wpAny_pyIter_zip st.1 h
def iZipC (K : PySem.W.Frag) (ta : TA) : TI := fun σ H R => ta σ H fun vs H1 => ∃ (t u o : Bool) (a b g : Addr) (xs ys zs : List V), vs = [.ref a, .ref b, .ref g] ∧ SqB t K H1 a xs ∧ SqB u K H1 b ys ∧ SqB o K H1 g zs ∧ R (ItzC t u o K a b g) H1
theorem pi_zipC {X : Cx} {e1 e2 e3 : Expr} {ta : TA} {p0 p1 p2 : Pos} {tgs : List Expr} {kk : Nat} (gl : Gl X "zip") (un : X.mg "zip" = none) (ha : PA X [e1, e2, e3] ta)
    (st : starEach [e1, e2, e3] X.env = (false, eval e1 X.env) :: starEach [e2, e3] X.env := by rfl) (pl : (backTo p1 (starEach [e2, e3] X.env)).any (·.1) = false := by rfl) :
    PI X (.Tuple tgs kk p2) (.Call (.Name "zip" p0) [e1, e2, e3] [] p1) (iZipC X.K ta) := by
  refine ⟨fun pins s σ H R I h => ?_⟩
  refine Call_ (ld_blt I gl un boot_zip (callWith_type1 (thn (ha.run p1 pins s σ H _ I h) ?_) st pl))
  rintro us s1 ⟨vs, H1, J, rel, t, u, o, a, b, g, xs, ys, zs, rfl, hX, hY, hZ, q⟩
  obtain ⟨v1, v2, v3, rfl, r1, r2, r3⟩ : ∃ v1 v2 v3, us = [v1, v2, v3] ∧ v1 = Value.ref a ∧ v2 = Value.ref b ∧ v3 = Value.ref g := by
    cases rel with
    | cons r rr => cases rr with | cons r' rr => cases rr with | cons r'' rr => cases rr; exact ⟨_, _, _, rfl, r, r', r''⟩
  subst r1 r2 r3
  obtain ⟨is, _, px⟩ := hX.read J
  obtain ⟨js, _, py⟩ := hY.read J
  obtain ⟨ks, _, pz⟩ := hZ.read J
  have la := px.lt
  have lb := py.lt
  have lg := pz.lt
  refine zip_begins3 (bgB t a is.toArray) (bgB u b js.toArray) (bgB o g ks.toArray) px py pz fun h' z m n c d e _ hk => wpAny_pyIter_zip z ?_
  have J2 : Inv X pins σ H1 { s1 with heap := h' } := J.kept (t' := s1.toks) hk
  have sep : ZipSep3 (s1.heap.objs.size + 5) (s1.heap.objs.size + 3) (s1.heap.objs.size + 4) s1.heap.objs.size (s1.heap.objs.size + 1) (s1.heap.objs.size + 2) [s1.heap.objs.size, a] [s1.heap.objs.size + 1, b] [s1.heap.objs.size + 2, g] := zip_sep3 (fp1 := [a]) (fp2 := [b]) (fp3 := [g]) (fun e he => by rw [List.mem_singleton.mp he]; exact la) (fun e he => by rw [List.mem_singleton.mp he]; exact lb) (fun e he => by rw [List.mem_singleton.mp he]; exact lg)
  refine ⟨_, [s1.heap.objs.size + 5, s1.heap.objs.size + 3, s1.heap.objs.size + 4, s1.heap.objs.size, s1.heap.objs.size + 1, s1.heap.objs.size + 2], _, _, H1, rfl, J2, turn_zipC sep (Nat.ne_of_lt la) (Nat.ne_of_lt (Nat.lt_succ_of_lt lb)) (Nat.ne_of_lt (Nat.lt_succ_of_lt (Nat.lt_succ_of_lt lg))), ⟨z, m, ⟨_, _, _, n⟩, .new c, .new d, .new e⟩, fun e he => ?_, q⟩
  have le : s1.heap.objs.size ≤ e := by
    simp only [List.mem_cons, List.not_mem_nil, or_false] at he
    rcases he with rfl | rfl | rfl | rfl | rfl | rfl
    · exact Nat.le_add_right _ _
    · exact Nat.le_add_right _ _
    · exact Nat.le_add_right _ _
    · exact Nat.le_refl _
    · exact Nat.le_add_right _ _
    · exact Nat.le_add_right _ _
  exact J.fpOk le (J.hok.fresh le)
section
variable {K : PySem.W.Frag} {E : XK} {t u o : Bool} {a b g : Addr} {xs ys zs : List V}
theorem walk_zipC {n : Nat} (hn : n = min xs.length (min ys.length zs.length)) : Walk (ItzC t u o K a b g) n (fun H => SqB t K H a xs ∧ SqB u K H b ys ∧ SqB o K H g zs) (fun i H v H' => ∃ p x y r, v = .ref p ∧ H p = none ∧ H' = upd H p (.tup [x, y, r]) ∧ xs[i]? = some x ∧ ys[i]? = some y ∧ zs[i]? = some r) := by
  subst hn
  refine ⟨fun i H hi q => ?_, fun H q => ⟨xs, ys, zs, q.1, q.2.1, q.2.2, by omega, by omega, by omega, by omega⟩, fun i H v H' _ q y => ?_⟩
  · have k1 : i < xs.length := by omega
    have k2 : i < ys.length := by omega
    have k3 : i < zs.length := by omega
    exact ⟨xs, ys, zs, xs[i], ys[i], zs[i], q.1, q.2.1, q.2.2, List.getElem?_eq_getElem k1, List.getElem?_eq_getElem k2, List.getElem?_eq_getElem k3⟩
  · obtain ⟨T, x, y', r, g1, g2, g3, g4, g5, g6⟩ := y
    exact ⟨T, x, y', r, g1, g2, g3, g4 _ q.1, g5 _ q.2.1, g6 _ q.2.2⟩
def tripUp : List PyData → List PyData → List PyData → List PyData
  | x :: a, y :: b, z :: c => .tuple [x, y, z] :: tripUp a b c
  | _, _, _ => []
theorem trip_len : ∀ a b c : List PyData, (tripUp a b c).length = min a.length (min b.length c.length)
  | [], _, _ => by simp [tripUp]
  | _ :: _, [], _ => by simp [tripUp]
  | _ :: _, _ :: _, [] => by simp [tripUp]
  | _ :: a, _ :: b, _ :: c => by simp only [tripUp, List.length_cons, trip_len a b c]; omega
theorem trip_get : ∀ {a b c : List PyData} {i : Nat} {d : PyData}, (tripUp a b c)[i]? = some d → ∃ x y z, a[i]? = some x ∧ b[i]? = some y ∧ c[i]? = some z ∧ d = .tuple [x, y, z]
  | [], _, _, i, d, h => by simp [tripUp] at h
  | _ :: _, [], _, i, d, h => by simp [tripUp] at h
  | _ :: _, _ :: _, [], i, d, h => by simp [tripUp] at h
  | x :: a, y :: b, z :: c, 0, d, h => by
    simp only [tripUp, List.getElem?_cons_zero, Option.some.injEq] at h
    exact ⟨x, y, z, rfl, rfl, rfl, h.symm⟩
  | x :: a, y :: b, z :: c, i + 1, d, h => by
    simp only [tripUp, List.getElem?_cons_succ] at h
    exact trip_get (a := a) (b := b) (c := c) (i := i) h
def zip3M (as : List PyData) : Option (List PyData) :=
  match as with
  | [x, y, z] => (seqD x).bind fun ds => (seqD y).bind fun es => (seqD z).map fun gs => tripUp ds es gs
  | _ => none
theorem OkI.zipC {t : TA} {fa : M (List R)} (o : OkA K E t fa) : OkI K E (iZipC K t) (argI zip3M fa) := by
  refine ⟨?_⟩
  intro B σ H env l rs rp h R post
  refine o.seq rp h post.exn fun a e v H1 h1 r1 f1 q1 => ?_
  obtain ⟨ds, h2, h3⟩ := lift_step h1
  obtain ⟨out, h4, h5⟩ := lift_some h3
  subst h5
  have da := dds_ok q1 h2
  unfold zip3M at h4
  split at h4
  · obtain ⟨es, e1, e2⟩ := Option.bind_eq_some_iff.mp h4
    obtain ⟨fs, e5, e6⟩ := Option.bind_eq_some_iff.mp e2
    obtain ⟨gs, e3, e4⟩ := Option.map_eq_some_iff.mp e6
    subst e4
    cases da with
    | cons d1 t1 =>
      cases t1 with
      | cons d2 t2 =>
        cases t2 with
        | cons d3 t3 =>
          cases t3
          obtain ⟨k1, p, ws, rfl, qa, ha⟩ := da_sq d1 e1
          obtain ⟨k2, p', ws', rfl, qb, hb⟩ := da_sq d2 e5
          obtain ⟨k3, p'', ws'', rfl, qc, hc⟩ := da_sq d3 e3
          refine ⟨k1, k2, k3, p, p', p'', ws, ws', ws'', rfl, qa.same (off_sub _ _), qb.same (off_sub _ _), qc.same (off_sub _ _), post _ H1 _ _ r1 f1 (walk_zipC (by rw [trip_len, daAll_len ha, daAll_len hb, daAll_len hc])) (fun H2 f => ⟨(qa.same f.keep).same (off_sub _ _), (qb.same f.keep).same (off_sub _ _), (qc.same f.keep).same (off_sub _ _)⟩) ?_⟩
          rintro i x H2 H3 d S fr ⟨T, u, w, r, rfl, hT, g3, g4, g5, g6⟩ hd hs hS
          obtain ⟨x1, y1, z1, j1, j2, j3, rfl⟩ := trip_get hd
          obtain ⟨u', m1, m2⟩ := daAll_get ha j1
          obtain ⟨w', m3, m4⟩ := daAll_get hb j2
          obtain ⟨r', m5, m6⟩ := daAll_get hc j3
          cases m1.symm.trans g4
          cases m3.symm.trans g5
          cases m5.symm.trans g6
          subst g3
          exact ⟨same_new hT _, (new_dp hS hT (.cons (m2.walk fr hs) (.cons (m4.walk fr hs) (.cons (m6.walk fr hs) .nil)))).2⟩
  · cases h4
/-- a statement that the data never come to -/
def stuckS {α : Type} : M α := fun _ => none
theorem OkS.stuck {E : XK} {bx : Bool} : OkS K E bx tNever stuckS := ⟨fun _ h => by cases h⟩
end
section
variable {X : Cx} {K : PySem.W.Frag} (hK : X.K = K)
include hK
theorem k_zipC {e1 e2 e3 : Expr} {ta : TA} {p0 p1 p2 : Pos} {tgs : List Expr} {kk : Nat} (gl : Gl X "zip") (un : X.mg "zip" = none) (ha : PA X [e1, e2, e3] ta)
    (st : starEach [e1, e2, e3] X.env = (false, eval e1 X.env) :: starEach [e2, e3] X.env := by rfl) (pl : (backTo p1 (starEach [e2, e3] X.env)).any (·.1) = false := by rfl) :
    PI X (.Tuple tgs kk p2) (.Call (.Name "zip" p0) [e1, e2, e3] [] p1) (iZipC K ta) := by subst hK; exact pi_zipC gl un ha st pl
end
end Ov

set_option Elab.async false
set_option linter.all false
set_option maxRecDepth 100000
set_option maxHeartbeats 4000000
namespace Ov
open PySem L2
/-! the plain functions, evaluated: every word applied to the slots -/
def cont {α β : Type} (o : Option (Rs α)) (f : α → M β) : Option (Rs β) :=
  match o with
  | none => none
  | some (.ok a e) => f a e
  | some (.ex C g d) => some (.ex C g d)
section
variable {α β : Type} {env e : En}
theorem v_bind (x : M α) (f : α → M β) : M.bind x f env = cont (x env) f := rfl
theorem v_ok (a : α) (f : α → M β) : cont (some (.ok a e)) f = f a e := rfl
theorem v_none (f : α → M β) : cont none f = none := rfl
theorem v_pure (a : α) : M.pure a env = some (.ok a env) := rfl
theorem v_lift (a : α) : lift (some a) env = some (.ok a env) := rfl
theorem v_liftN : lift (none : Option α) env = none := rfl
theorem v_con (d : PyData) : con d env = some (.ok (.dat d) env) := rfl
def gk (o : Option (Option Wv)) (i : Nat) : Option R :=
  match o with
  | some (some (.dat d)) => some (.dat d)
  | some (some (.own _)) => some (.slot i)
  | some (some (.exc C f d)) => some (.exc C f d)
  | some (some (.dct _)) => some (.slot i)
  | _ => none
theorem v_get (i : Nat) : get i env = lift (gk env[i]? i) env := by
  unfold get gk
  cases env[i]? with
  | none => rfl
  | some o => cases o with
    | none => rfl
    | some w => cases w <;> rfl
theorem v_gkd (d : PyData) (i : Nat) : gk (some (some (.dat d))) i = some (.dat d) := rfl
theorem v_gko (xs : List It1) (i : Nat) : gk (some (some (.own xs))) i = some (.slot i) := rfl
theorem v_gke (C : Addr) (f : Str) (d : PyData) (i : Nat) : gk (some (some (.exc C f d))) i = some (.exc C f d) := rfl
theorem v_gkc (xs : List Int) (i : Nat) : gk (some (some (.dct xs))) i = some (.slot i) := rfl
theorem v_vwd (d : PyData) : vw (.dat d) env = some (.ok d env) := rfl
def ok1 (o : Option (Option Wv)) : Option (List PyData) :=
  match o with
  | some (some (.own xs)) => itds xs
  | _ => none
theorem v_vws (i : Nat) : vw (.slot i) env = lift ((ok1 env[i]?).map .list) env := by
  unfold vw ok1 lift
  simp only
  cases env[i]? with
  | none => rfl
  | some o => cases o with
    | none => rfl
    | some w =>
      cases w with
      | own xs => simp only; cases itds xs <;> rfl
      | dat _ => rfl
      | exc _ _ _ => rfl
      | dct _ => rfl
theorem v_ok1 (ds : List PyData) : ok1 (some (some (.own (dats ds)))) = some ds := itds_dats ds
theorem v_ownD (i : Nat) : ownD i env = lift (ok1 env[i]?) env := by
  unfold ownD ok1 lift
  cases env[i]? with
  | none => rfl
  | some o => cases o with
    | none => rfl
    | some w =>
      cases w with
      | own xs => simp only
      | dat _ => rfl
      | exc _ _ _ => rfl
      | dct _ => rfl
def dk1 (o : Option (Option Wv)) : Option (List Int) :=
  match o with
  | some (some (.dct xs)) => some xs
  | _ => none
theorem v_dctD (i : Nat) : dctD i env = lift (dk1 env[i]?) env := by
  unfold dctD dk1 lift
  cases env[i]? with
  | none => rfl
  | some o => cases o with
    | none => rfl
    | some w => cases w <;> rfl
theorem v_dk1 (ks : List Int) : dk1 (some (some (.dct ks))) = some ks := rfl
theorem v_setOwn (i : Nat) (ds : List PyData) : setOwn i ds env = some (.ok () (env.set i (some (.own (dats ds))))) := rfl
theorem v_putM (i : Nat) (w : Wv) (h : i < env.length) : putM i w env = some (.ok () (env.set i (some w))) := if_pos h
theorem v_op2 (fo : PyData → PyData → Option PyData) (fa fb : M R) : op2 fo fa fb env = cont (fa env) fun a => M.bind fb fun b => M.bind (vw a) fun x => M.bind (vw b) fun y => M.bind (lift (fo x y)) fun d => M.pure (.dat d) := rfl
theorem v_op1 (fo : PyData → Option PyData) (fa : M R) : op1 fo fa env = cont (fa env) fun a => M.bind (vw a) fun x => M.bind (lift (fo x)) fun d => M.pure (.dat d) := rfl
theorem v_anil : anil env = some (.ok [] env) := rfl
theorem v_acons (fa : M R) (fr : M (List R)) : acons fa fr env = cont (fa env) fun a => M.bind fr fun r => M.pure (a :: r) := rfl
theorem v_vws0 : vws [] env = some (.ok [] env) := rfl
theorem v_vwsC (r : R) (rs : List R) : vws (r :: rs) env = cont (vw r env) fun d => M.bind (vws rs) fun ds => M.pure (d :: ds) := rfl
theorem v_cb (fo : List PyData → Option PyData) (fa : M (List R)) : cb fo fa env = cont (fa env) fun a => M.bind (vws a) fun ds => M.bind (lift (fo ds)) fun d => M.pure (.dat d) := rfl
theorem v_tupD (fa : M (List R)) : tupD fa env = cont (fa env) fun a => M.bind (lift (dds a)) fun ds => M.bind (lift (sz ds.length)) fun _ => M.pure (.dat (.tuple ds)) := rfl
theorem v_lstD (fa : M (List R)) : lstD fa env = cont (fa env) fun a => M.bind (lift (dds a)) fun ds => M.bind (lift (sz ds.length)) fun _ => M.pure (.dat (.list ds)) := rfl
theorem v_lstW (fa : M (List R)) : lstW fa env = cont (fa env) fun a => M.bind (lift (dds a)) fun ds => M.bind (lift (sz ds.length)) fun _ => M.pure (.own (dats ds)) := rfl
theorem v_listW (fa : M (List R)) : listW fa env = cont (fa env) fun a => M.bind (vws a) fun ds => M.bind (lift (match ds with | [a] => seqD a | _ => none)) fun es => M.pure (.own (dats es)) := rfl
theorem v_dds0 : dds [] = some [] := rfl
theorem v_ddsC (d : PyData) (r : List R) : dds (.dat d :: r) = (dds r).map (d :: ·) := rfl
def asB : PyData → Option Bool
  | .bool b => some b
  | _ => none
theorem v_asB (b : Bool) : asB (.bool b) = some b := rfl
theorem v_tb1 (fa : M R) : tb1 fa env = cont (fa env) fun a => M.bind (vw a) fun d => lift (asB d) := by
  unfold tb1
  rw [v_bind]
  congr 1
  funext a
  congr 1
  funext d
  cases d <;> rfl
theorem v_andT (fa fb : M Bool) : andT fa fb env = cont (fa env) fun a => if a = true then fb else M.pure false := rfl
theorem v_orT (fa fb : M Bool) : orT fa fb env = cont (fa env) fun a => if a = true then M.pure true else fb := rfl
theorem v_notT (fa : M Bool) : notT fa env = cont (fa env) fun a => M.pure (!a) := rfl
theorem v_andV (fa fb : M R) : andV fa fb env = cont (tb1 fa env) fun a => if a = true then fb else M.pure (ofB false) := rfl
theorem v_orV (fa fb : M R) : orV fa fb env = cont (tb1 fa env) fun a => if a = true then M.pure (ofB true) else fb := rfl
theorem v_notV (fa : M R) : notV fa env = cont (tb1 fa env) fun a => M.pure (ofB !a) := rfl
theorem v_ofB (b : Bool) : ofB b = .dat (.bool b) := rfl
theorem v_ifE (ft : M Bool) (fa fb : M R) : ifE ft fa fb env = cont (ft env) fun c => if c = true then fa else fb := rfl
theorem v_pl (f : M R) : pl f env = cont (f env) fun r => lift (toW r) := rfl
theorem v_toW (d : PyData) : toW (.dat d) = some (.dat d) := rfl
theorem v_fz (f : M Wv) : fz f env = cont (f env) fun w => lift (ofW w) := rfl
theorem v_ofWd (d : PyData) : ofW (.dat d) = some (.dat d) := rfl
theorem itD_dats (ds : List PyData) : (dats ds).map itD = ds := by
  unfold dats
  rw [List.map_map]
  exact List.map_id ds
theorem v_ofWo (ds : List PyData) : ofW (.own (dats ds)) = some (.dat (.list ds)) := by
  show some (R.dat (.list ((dats ds).map itD))) = _
  rw [itD_dats]
theorem v_nxt : nxt env = some (.ok .nx env) := rfl
theorem v_thenS (f g : M Fl) : thenS f g env = cont (f env) fun fl => match fl with | .nx => g | o => M.pure o := rfl
theorem v_exprS (f : M R) : exprS f env = cont (f env) fun _ => M.pure .nx := rfl
theorem v_retS (f : M Wv) : retS f env = cont (f env) fun w => M.pure (.rt w) := rfl
theorem v_retN : retN env = some (.ok (.rt (.dat .none)) env) := rfl
theorem v_ifS (c : M Bool) (f g : M Fl) : ifS c f g env = cont (c env) fun b => if b = true then f else g := rfl
theorem v_setS (i : Nat) (f : M Wv) : setS i f env = cont (f env) fun w => M.bind (putM i w) fun _ => M.pure .nx := rfl
theorem v_parS (i j : Nat) (f g : M Wv) : parS i j f g env = cont (f env) fun v => M.bind g fun w => M.bind (putM i v) fun _ => M.bind (putM j w) fun _ => M.pure .nx := rfl
theorem v_setIx (i : Nat) (fe fk : M R) : setIx i fe fk env = cont (fe env) fun r => M.bind (lift (asD r)) fun d => M.bind (ownD i) fun _ => M.bind fk fun k => M.bind (lift (asI k)) fun k => M.bind (ownD i) fun ds => M.bind (lift (ixN ds.length k)) fun j => M.bind (setOwn i (ds.set j d)) fun _ => M.pure .nx := rfl
theorem v_asD (d : PyData) : asD (.dat d) = some d := rfl
theorem v_asI (i : Int) : asI (.dat (.int i)) = some i := rfl
theorem v_mthE (i : Nat) (fo : List PyData → List PyData → Option (List PyData × PyData)) (fa : M (List R)) : mthE i fo fa env = cont (ownD i env) fun _ => M.bind fa fun rs => M.bind (lift (dds rs)) fun as => M.bind (ownD i) fun ds => M.bind (lift (fo ds as)) fun r => M.bind (setOwn i r.1) fun _ => M.pure (.dat r.2) := rfl
theorem v_callA (F : List PyData → Option Wv) (fa : M (List R)) : callA F fa env = cont (fa env) fun rs => M.bind (lift (dds rs)) fun ds => lift (F ds) := rfl
theorem v_callB (i : Nat) (F : List PyData → List PyData → Option (Wv × List PyData)) (fa : M (List R)) : callB i F fa env = cont (ownD i env) fun _ => M.bind fa fun rs => M.bind (lift (dds rs)) fun ds => M.bind (ownD i) fun bs => M.bind (lift (F bs ds)) fun r => M.bind (setOwn i r.2) fun _ => M.pure r.1 := rfl
theorem v_moveS (i : Nat) (xs : List It1) (h : env[i]? = some (some (.own xs))) : moveS i env = some (.ok (.rt (.own xs)) (env.set i none)) := by
  unfold moveS
  rw [h]
theorem v_forS (fi : M (List PyData)) (p : PyData → En → Option En) (body : M Fl) : forS fi p body env = cont (fi env) fun ds => forM p body ds := rfl
theorem v_argI (fo : List PyData → Option (List PyData)) (fa : M (List R)) : argI fo fa env = cont (fa env) fun rs => M.bind (lift (dds rs)) fun ds => lift (fo ds) := rfl
theorem v_seqI (f : M R) : seqI f env = cont (f env) fun r => M.bind (lift (asD r)) fun d => lift (seqD d) := rfl
theorem v_slD (fa : M R) (fl fh : M (Option Int)) : slD fa fl fh env = cont (fa env) fun a => M.bind fl fun lo => M.bind fh fun hi => M.bind (vw a) fun x => M.bind (lift (cutD x lo hi)) fun d => M.pure (.dat d) := rfl
theorem v_poN : poN env = some (.ok none env) := rfl
theorem v_poS (fa : M R) : poS fa env = cont (fa env) fun a => M.bind (lift (asI a)) fun i => M.pure (some i) := rfl
theorem v_isiE (T : String) (fa : M R) : isiE T fa env = cont (fa env) fun r => M.bind (vw r) fun d => M.bind (lift (kitD T d)) fun b => M.pure (ofB b) := rfl
theorem v_isiE2 (A B : String) (fa : M R) : isiE2 A B fa env = cont (fa env) fun r => M.bind (vw r) fun d => M.bind (lift (kitD A d)) fun a => M.bind (lift (kitD B d)) fun b => M.pure (ofB (a || b)) := rfl
theorem v_isNE (n : Bool) (fa : M R) : isNE n fa env = cont (fa env) fun r => M.bind (lift (isNR r)) fun b => M.pure (ofB (n ^^ b)) := rfl
theorem v_dnew : dnew env = some (.ok (.dct []) env) := rfl
theorem v_dinT (n : Bool) (i : Nat) (fk : M R) : dinT n i fk env = cont (fk env) fun r => M.bind (lift (asI r)) fun k => M.bind (dctD i) fun ks => M.pure (n ^^ decide (k ∈ ks)) := rfl
theorem v_dputS (i : Nat) (fk : M R) : dputS i fk env = cont (dctD i env) fun _ => M.bind fk fun r => M.bind (lift (asI r)) fun k => M.bind (dctD i) fun ks => M.bind (lift (chk (decide (ks.length < 1000)))) fun _ => M.bind (putM i (.dct (putT ks k))) fun _ => M.pure .nx := rfl
theorem v_sortDct (i : Nat) : sortDct i env = cont (dctD i env) fun ks => M.bind (lift (chk (decide (ks.length < 64)))) fun _ => M.pure (.dat (.list ((sortI ks).map .int))) := rfl
theorem v_rgE (fr : M (Int × Int)) : rgE fr env = cont (fr env) fun r => M.bind (lift (chk (decide (-(2 ^ 62) ≤ r.1 ∧ r.1 < 2 ^ 62 ∧ -(2 ^ 62) ≤ r.2 ∧ r.2 < 2 ^ 62 ∧ (r.2 - r.1).toNat ≤ 1000000)))) fun _ => M.pure (.dat (.tuple ((rngL r.1 r.2).map .int))) := rfl
theorem v_rg2 (fa fb : M R) : rg2 fa fb env = cont (fa env) fun a => M.bind fb fun b => M.bind (lift (asI a)) fun i => M.bind (lift (asI b)) fun j => M.pure (i, j) := rfl
theorem v_unS (p : PyData → En → Option En) (f : M R) : unS p f env = cont (f env) fun r => M.bind (lift (asD r)) fun d => M.bind (liftE (p d)) fun _ => M.pure .nx := rfl
theorem v_frz (i : Nat) (ds : List PyData) (h : env[i]? = some (some (.own (dats ds)))) : frzM i env = some (.ok () (env.set i (some (.dat (.list ds))))) := by
  unfold frzM
  rw [h]
  simp only
  rw [itD_dats]
theorem v_catW (fa fb : M R) : catW fa fb env = cont (fa env) fun a => M.bind fb fun b => M.bind (vw a) fun x => M.bind (vw b) fun y => M.bind (lift (catD x y)) fun d => M.bind (lift (match d with | .list ds => some ds | _ => none)) fun ds => M.pure (.own (dats ds)) := rfl
theorem v_chainE (fo fo' : PyData → PyData → Option PyData) (fa fb fc : M R) : chainE fo fo' fa fb fc env = cont (fa env) fun a => M.bind fb fun b => M.bind (vw a) fun x => M.bind (vw b) fun y => M.bind (lift (fo x y)) fun d => M.bind (lift (asB d)) fun k => if k = true then M.bind fc fun c => M.bind (vw b) fun y' => M.bind (vw c) fun z => M.bind (lift (fo' y' z)) fun d' => M.pure (.dat d') else M.pure (ofB false) := by
  unfold chainE
  have : (fun (b : R) (d : PyData) => (match d with | .bool k => if k = true then M.bind fc fun c => M.bind (vw b) fun y' => M.bind (vw c) fun z => M.bind (lift (fo' y' z)) fun d' => M.pure (.dat d') else M.pure (ofB false) | _ => fun _ => none : M R)) = fun b d => M.bind (lift (asB d)) fun k => if k = true then M.bind fc fun c => M.bind (vw b) fun y' => M.bind (vw c) fun z => M.bind (lift (fo' y' z)) fun d' => M.pure (.dat d') else M.pure (ofB false) := by
    funext b d
    cases d <;> rfl
  have h2 : ∀ b, (fun (d : PyData) => (match d with | .bool k => if k = true then M.bind fc fun c => M.bind (vw b) fun y' => M.bind (vw c) fun z => M.bind (lift (fo' y' z)) fun d' => M.pure (.dat d') else M.pure (ofB false) | _ => fun _ => none : M R)) = fun d => M.bind (lift (asB d)) fun k => if k = true then M.bind fc fun c => M.bind (vw b) fun y' => M.bind (vw c) fun z => M.bind (lift (fo' y' z)) fun d' => M.pure (.dat d') else M.pure (ofB false) := fun b => congrFun this b
  show M.bind _ _ env = _
  rw [v_bind]
  congr 1
  funext a
  congr 1
  funext b
  congr 1
  funext x
  congr 1
  funext y
  congr 1
  exact h2 b
/-! operators on numbers -/
theorem v_add (i j : Int) : addD (.int i) (.int j) = some (.int (i + j)) := rfl
theorem v_sub (i j : Int) : subD (.int i) (.int j) = some (.int (i - j)) := rfl
theorem v_mul (i j : Int) (h : pMul i j = true) : mulD (.int i) (.int j) = some (.int (i * j)) := if_pos h
theorem v_div (i j : Int) (h : pDiv i j = true) : divD (.int i) (.int j) = some (.int (i / j)) := if_pos h
theorem v_mod (i j : Int) (h : pMod i j = true) : modD (.int i) (.int j) = some (.int (i % j)) := if_pos h
theorem v_pow (i j : Int) (h : pPow i j = true) : powD (.int i) (.int j) = some (.int (i ^ j.toNat)) := if_pos h
theorem v_lt (i j : Int) : ltD (.int i) (.int j) = some (.bool (decide (i < j))) := rfl
theorem v_le (i j : Int) : leD (.int i) (.int j) = some (.bool (decide (i ≤ j))) := rfl
theorem v_gt (i j : Int) : gtD (.int i) (.int j) = some (.bool (decide (j < i))) := rfl
theorem v_ge (i j : Int) : geD (.int i) (.int j) = some (.bool (decide (j ≤ i))) := rfl
theorem v_eqI (n : Bool) (i j : Int) : eqA n (.int i) (.int j) = some (.bool (n ^^ decide (i = j))) := rfl
theorem v_eqB (n : Bool) (i j : Bool) : eqA n (.bool i) (.bool j) = some (.bool (n ^^ decide (i = j))) := rfl
theorem v_eqS (n : Bool) (i j : Str) : eqA n (.str i) (.str j) = some (.bool (n ^^ decide (i = j))) := rfl
theorem v_ixL (ds : List PyData) (i : Int) : ixD (.list ds) (.int i) = atI ds i := rfl
theorem v_ixT (ds : List PyData) (i : Int) : ixD (.tuple ds) (.int i) = atI ds i := rfl
theorem v_lenL (ds : List PyData) : lenD [.list ds] = some (.int ds.length) := rfl
theorem v_lenT (ds : List PyData) : lenD [.tuple ds] = some (.int ds.length) := rfl
theorem v_abs (i : Int) : absD [.int i] = some (.int (if i < 0 then -i else i)) := rfl
theorem v_intI (i : Int) : intD [.int i] = some (.int i) := rfl
theorem v_intB (k : Bool) : intD [.bool k] = some (.int (if k then 1 else 0)) := rfl
theorem v_min (i j : Int) : minD [.int i, .int j] = some (.int (if j < i then j else i)) := rfl
theorem v_max (i j : Int) : maxD [.int i, .int j] = some (.int (if j > i then j else i)) := rfl
theorem v_sz (n : Nat) (h : n ≤ 1000000) : sz n = some () := if_pos h
theorem v_chk : chk true = some () := rfl
theorem v_app (ds : List PyData) (a : PyData) (h : ds.length + 1 ≤ 1000000) : appD ds [a] = some (ds ++ [a], .none) := by
  show (sz (ds.length + 1)).map _ = _
  rw [v_sz _ h]
  rfl
end
theorem v_cat (xs ys : List PyData) (h : xs.length + ys.length ≤ 1000000) : catD (.list xs) (.list ys) = some (.list (xs ++ ys)) := by
  show (sz _).map _ = _
  rw [v_sz _ h]
  rfl
theorem v_catT (xs ys : List PyData) (h : xs.length + ys.length ≤ 1000000) : catT (.tuple xs) (.tuple ys) = some (.tuple (xs ++ ys)) := by
  show (sz _).map _ = _
  rw [v_sz _ h]
  rfl
theorem then_nx {f g : M Fl} {env e : En} (h : f env = some (.ok .nx e)) : thenS f g env = g e := by
  rw [v_thenS, h]
  rfl
theorem then_rt {f g : M Fl} {env e : En} {w : Wv} (h : f env = some (.ok (.rt w) e)) : thenS f g env = some (.ok (.rt w) e) := by
  rw [v_thenS, h]
  rfl
/-- a function's run, by its body's -/
theorem runA_eq {np n : Nat} {fb : M Fl} {ds : List PyData} {w : Wv} (hl : ds.length = np) (h : ∃ e, fb (env0 ds (n - ds.length)) = some (.ok (.rt w) e)) : runA np n fb ds = some w := by
  obtain ⟨e, h⟩ := h
  unfold runA
  rw [if_pos hl, h]
theorem runB_eq {np n : Nat} {fb : M Fl} {bs ds bs' : List PyData} {w : Wv} (hl : ds.length + 1 = np) (h : ∃ e, fb (some (.own (dats bs)) :: env0 ds (n - (ds.length + 1))) = some (.ok (.rt w) (some (.own (dats bs')) :: e))) : runB np n fb bs ds = some (w, bs') := by
  obtain ⟨e, h⟩ := h
  unfold runB
  rw [if_pos hl, h]
  show (itds (dats bs')).map _ = _
  rw [itds_dats]
  rfl
end Ov

set_option Elab.async false
set_option linter.all false
set_option maxRecDepth 100000
set_option maxHeartbeats 4000000
namespace Ov
open PySem L2
/-! loops and comprehensions, a turn at a time -/
section
variable {env e e2 : En}
theorem while_go {c : M Bool} {b : M Fl} {k : Nat} (h1 : c env = some (.ok true e)) (h2 : b e = some (.ok .nx e2)) : whileM c b (k + 1) env = whileM c b k e2 := by
  simp only [whileM, h1, h2, if_true]
theorem while_end {c : M Bool} {b : M Fl} {k : Nat} (h1 : c env = some (.ok false e)) : whileM c b (k + 1) env = some (.ok .nx e) := by
  simp only [whileM, h1, Bool.false_eq_true, if_false]
theorem for_nil {p : PyData → En → Option En} {b : M Fl} : forM p b [] env = some (.ok .nx env) := rfl
theorem for_go {p : PyData → En → Option En} {b : M Fl} {d : PyData} {ds : List PyData} (h1 : p d env = some e) (h2 : b e = some (.ok .nx e2)) : forM p b (d :: ds) env = forM p b ds e2 := by
  simp only [forM, h1, h2]
theorem for_rt {p : PyData → En → Option En} {b : M Fl} {d : PyData} {ds : List PyData} {w : Wv} (h1 : p d env = some e) (h2 : b e = some (.ok (.rt w) e2)) : forM p b (d :: ds) env = some (.ok (.rt w) e2) := by
  simp only [forM, h1, h2]
theorem comp_yes {p : PyData → En → Option En} {ft : M Bool} {fe : M R} {vs : List Nat} {d y : PyData} {ds acc : List PyData} {e3 : En} (h1 : p d env = some e) (h2 : ft e = some (.ok true e2)) (h3 : fe e2 = some (.ok (.dat y) e3)) (h4 : freeB e3 vs = true) (h5 : acc.length < 1000000) :
    compM p ft fe vs (d :: ds) acc env = compM p ft fe vs ds (acc ++ [y]) (wipeE e3 vs) := by
  simp only [compM, h1, h2, h3, h4, h5, if_true, true_and, and_self]
theorem comp_no {p : PyData → En → Option En} {ft : M Bool} {fe : M R} {vs : List Nat} {d : PyData} {ds acc : List PyData} (h1 : p d env = some e) (h2 : ft e = some (.ok false e2)) (h4 : freeB e2 vs = true) :
    compM p ft fe vs (d :: ds) acc env = compM p ft fe vs ds acc (wipeE e2 vs) := by
  simp only [compM, h1, h2, h4, if_true, Bool.false_eq_true, if_false]
/-- nothing changes but the list -/
theorem comp_all {p : PyData → En → Option En} {ft : M Bool} {fe : M R} {vs : List Nat} (g : PyData → PyData) (t : PyData → Bool) : ∀ (ds acc : List PyData), acc.length + ds.length < 1000000 →
    (∀ d ∈ ds, ∃ e, p d env = some e ∧ ft e = some (.ok (t d) e) ∧ (t d = true → fe e = some (.ok (.dat (g d)) e)) ∧ freeB e vs = true ∧ wipeE e vs = env) → compM p ft fe vs ds acc env = some (.ok (acc ++ (ds.filter t).map g) env)
  | [], acc, _, _ => by simp [compM, M.pure]
  | d :: ds, acc, hl, h => by
    obtain ⟨e, h1, h2, h3, h4, h5⟩ := h d (List.mem_cons_self ..)
    rw [List.length_cons] at hl
    cases q : t d with
    | true =>
      rw [q] at h2
      rw [comp_yes h1 h2 (h3 q) h4 (by omega), h5, comp_all g t ds (acc ++ [g d]) (by rw [List.length_append]; show acc.length + 1 + _ < _; omega) fun x hx => h x (List.mem_cons_of_mem _ hx)]
      simp [q]
    | false =>
      rw [q] at h2
      rw [comp_no h1 h2 h4, h5, comp_all g t ds acc (by omega) fun x hx => h x (List.mem_cons_of_mem _ hx)]
      simp [q]
theorem comp_map {p : PyData → En → Option En} {ft : M Bool} {fe : M R} {vs : List Nat} (g : PyData → PyData) (ds acc : List PyData) (hl : acc.length + ds.length < 1000000)
    (h : ∀ d ∈ ds, ∃ e, p d env = some e ∧ ft e = some (.ok true e) ∧ fe e = some (.ok (.dat (g d)) e) ∧ freeB e vs = true ∧ wipeE e vs = env) : compM p ft fe vs ds acc env = some (.ok (acc ++ ds.map g) env) := by
  have := comp_all (env := env) (p := p) (ft := ft) (fe := fe) (vs := vs) g (fun _ => true) ds acc hl fun d hd => by
    obtain ⟨e, h1, h2, h3, h4, h5⟩ := h d hd
    exact ⟨e, h1, h2, fun _ => h3, h4, h5⟩
  rw [List.filter_eq_self.mpr fun _ _ => rfl] at this
  exact this
theorem lc_eq {fi : M (List PyData)} {p : PyData → En → Option En} {ft : M Bool} {fe : M R} {vs : List Nat} {ds out : List PyData} {e3 : En} (h1 : fi env = some (.ok ds e)) (h2 : freeB e vs = true) (h3 : wipeE e vs = e2) (h4 : compM p ft fe vs ds [] e2 = some (.ok out e3)) :
    lcW fi p ft fe vs env = some (.ok (.own (dats out)) e3) := by
  show cont (fi env) _ = _
  rw [h1]
  show (if freeB e vs = true then (M.bind (compM p ft fe vs ds []) fun out => M.pure (Wv.own (dats out))) (wipeE e vs) else none) = _
  rw [if_pos h2, h3]
  show cont (compM p ft fe vs ds [] e2) _ = _
  rw [h4]
  rfl
end
theorem free_le (ks : List Int) (a M : Int) (hM : (ks.length : Int) < M) : ∃ m : Nat, m ≤ ks.length ∧ (a + m) % M + 1 ∉ ks := by
  refine Classical.byContradiction fun no => ?_
  have all : ∀ m : Nat, m ≤ ks.length → (a + m) % M + 1 ∈ ks := fun m hm => Classical.byContradiction fun h => no ⟨m, hm, h⟩
  have nd : ((List.range (ks.length + 1)).map fun m : Nat => (a + m) % M + 1).Nodup := by
    refine List.pairwise_map.mpr ?_
    refine List.Pairwise.imp_of_mem ?_ List.pairwise_lt_range
    intro i j hi hj hij e
    have hj' := List.mem_range.mp hj
    exact emod_ne (a := a) (M := M) (by omega) hij (by omega)
  have h := sub_len _ ks nd fun x hx => by
    obtain ⟨m, hm, rfl⟩ := List.mem_map.mp hx
    exact all m (by have := List.mem_range.mp hm; omega)
  rw [List.length_map, List.length_range] at h
  omega
/-- the first such step -/
theorem free_first (ks : List Int) (a M : Int) (hM : (ks.length : Int) < M) : ∃ m : Nat, m ≤ ks.length ∧ (a + m) % M + 1 ∉ ks ∧ ∀ j : Nat, j < m → (a + j) % M + 1 ∈ ks := by
  obtain ⟨m, hm, h⟩ := free_le ks a M hM
  have key : ∀ n : Nat, n ≤ ks.length → (a + n) % M + 1 ∉ ks → ∃ m : Nat, m ≤ ks.length ∧ (a + m) % M + 1 ∉ ks ∧ ∀ j : Nat, j < m → (a + j) % M + 1 ∈ ks := by
    intro n
    induction n using Nat.strongRecOn with
    | _ n ih =>
      intro hn h
      by_cases q : ∃ j, j < n ∧ (a + (j : Nat)) % M + 1 ∉ ks
      · obtain ⟨j, hj, hq⟩ := q
        exact ih j hj (by omega) hq
      · exact ⟨n, hn, h, fun j hj => Classical.byContradiction fun z => q ⟨j, hj, z⟩⟩
  exact key m hm h
theorem erase_map {α β : Type} (f : α → β) : ∀ (l : List α) (j : Nat), (l.map f).eraseIdx j = (l.eraseIdx j).map f
  | [], j => by simp
  | a :: r, 0 => by simp
  | a :: r, j + 1 => by
    rw [List.map_cons, List.eraseIdx_cons_succ, List.eraseIdx_cons_succ, List.map_cons, erase_map f r j]
theorem shp_list (ns : List Int) : shp (.list (ns.map .int)) = true := sh_ints ns
theorem shp_tup (ns : List Int) : shp (.tuple (ns.map .int)) = true := sh_intsT ns
theorem ne_nil (ns : List Int) : eqvD true (.list (ns.map .int)) (.list []) = some (.bool (!ns.isEmpty)) := by
  unfold eqvD
  rw [shp_list, show shp (.list []) = true by decide]
  show some (PyData.bool (true ^^ PyData.eqv (dInts ns) (.list []))) = _
  rw [eqv_nil, Bool.true_xor]
theorem shp_int (i : Int) : shp (.int i) = true := by simp [shp, SeqAt.shaped, PyData.canLay0, PyData.depth]
theorem shp_bool (i : Bool) : shp (.bool i) = true := by simp [shp, SeqAt.shaped, PyData.canLay0, PyData.depth]
theorem shp_none : shp .none = true := by decide
end Ov

set_option Elab.async false
set_option linter.all false
set_option maxRecDepth 100000
set_option maxHeartbeats 4000000
namespace Ov
open PySem L2
/-! a comprehension of two clauses, the second one over a range -/
section
variable {K : PySem.W.Frag} {E : XK}
def PostJ (K : PySem.W.Frag) (E : XK) (B : Addr → Prop) (σ : St) (H : Hp) (l : List Addr) (rs : Rs (List PyData)) (R : It → Hp → Prop) : Prop :=
  match rs with
  | .ok ds env' => ∀ J H' Y, Rep K B σ H' env' l → Fr l H H' → Walk J ds.length (fun _ => True) Y → (∀ i x H2 H3 d, Y i H2 x H3 → ds[i]? = some d → H3 = H2 ∧ ∃ k : Int, x = .int k ∧ d = .int k) → R J H'
  | .ex C f d => Exn K E B H l C f d
structure OkJ (K : PySem.W.Frag) (E : XK) (t : TI) (f : M (List PyData)) : Prop where
  run : ∀ {B : Addr → Prop} {σ : St} {H : Hp} {env : En} {l : List Addr} {rs : Rs (List PyData)}, Rep K B σ H env l → f env = some rs → ∀ {R : It → Hp → Prop}, PostJ K E B σ H l rs R → t σ H R
theorem PostJ.exn {B : Addr → Prop} {σ : St} {H : Hp} {l : List Addr} {rs : Rs (List PyData)} {R : It → Hp → Prop} (h : PostJ K E B σ H l rs R) : ∀ C f d, rs = .ex C f d → Exn K E B H l C f d := fun C f d e => by subst e; exact h
theorem OkJ.range1 {t : TA} {fa : M (List R)} (o : OkA K E t fa) : OkJ K E (iRng1 t) (argI rngD fa) := by
  refine ⟨?_⟩
  intro B σ H env l rs rp h R post
  refine o.seq rp h post.exn fun a e v H1 h1 r1 f1 q1 => ?_
  obtain ⟨ds, h2, h3⟩ := lift_step h1
  obtain ⟨out, h4, h5⟩ := lift_some h3
  subst h5
  have da := dds_ok q1 h2
  unfold rngD at h4
  split at h4
  · split at h4
    · rename_i j hj
      cases h4
      cases da with
      | cons d1 t1 =>
        cases t1
        cases d1
        refine ⟨j, rfl, hj.1, hj.2, post _ H1 _ r1 f1 (by rw [rng_len, show j - 0 = j by omega]; exact walk_range) ?_⟩
        rintro i x H2 H3 d ⟨rfl, rfl⟩ hd
        exact ⟨rfl, _, rfl, rng_get hd⟩
    · cases h4
  · cases h4
theorem OkJ.range2 {t : TA} {fa : M (List R)} (o : OkA K E t fa) : OkJ K E (iRng2 t) (argI rngD2 fa) := by
  refine ⟨?_⟩
  intro B σ H env l rs rp h R post
  refine o.seq rp h post.exn fun a e v H1 h1 r1 f1 q1 => ?_
  obtain ⟨ds, h2, h3⟩ := lift_step h1
  obtain ⟨out, h4, h5⟩ := lift_some h3
  subst h5
  have da := dds_ok q1 h2
  unfold rngD2 at h4
  split at h4
  · split at h4
    · rename_i i0 j0 hj
      cases h4
      cases da with
      | cons d1 t1 =>
        cases t1 with
        | cons d2 t2 =>
          cases t2
          cases d1
          cases d2
          refine ⟨_, _, rfl, hj, post _ H1 _ r1 f1 (by rw [rng_len]; exact walk_range) ?_⟩
          rintro i x H2 H3 d ⟨rfl, rfl⟩ hd
          exact ⟨rfl, _, rfl, rng_get hd⟩
    · cases h4
  · cases h4
/-- the turns of the second clause -/
theorem comp_turns {B : Addr → Prop} {σ : St} {l : List Addr} {D : Addr} (hBD : B D) (nD : D ∉ l) {J : It} {Y : Nat → Hp → V → Hp → Prop} {ds : List PyData} (wk : Walk J ds.length (fun _ => True) Y)
    (hY : ∀ i x H2 H3 d, Y i H2 x H3 → ds[i]? = some d → H3 = H2 ∧ ∃ k : Int, x = .int k ∧ d = .int k) {g : TG} {tt : TT} {te : TE} {vs js : List Nat} {p : PyData → En → Option En} {ft : M Bool} {fe : M R}
    (og : OkG K g js p) (hj : ∀ j ∈ js, j ∈ vs) (ot : OkT K L2.E0 tt ft) (oe : OkE K L2.E0 te fe) {env0 e9 : En} {H0 : Hp} {va0 : List V} {acc0 out : List PyData} (r0 : Rep K B (L2.wipe σ vs) H0 env0 l) (hD0 : H0 D = some (.lst va0))
    (da0 : DaAll K (off (un B l) H0) va0 acc0) (fre0 : ∀ j ∈ vs, ∀ w, env0[j]? ≠ some (some w)) (hc0 : compM p ft fe vs ds acc0 env0 = some (.ok out e9)) {Qd : Hp → Prop}
    (hd : ∀ H' va', Rep K B (L2.wipe σ vs) H' e9 l → (∀ b o, b ≠ D → b ∉ l → H0 b = some o → H' b = some o) → H' D = some (.lst va') → DaAll K (off (un B l) H') va' out → Qd H') :
    ∃ W1 : Nat → Nat → Hp → Prop, (∃ m, W1 0 m H0) ∧ ∀ j k H, W1 j k H → (J.stop j H ∧ Qd H) ∨ (J.go j H ∧ ∃ Nx1 : Hp → Prop, (∀ H', Nx1 H' → ∃ k', k' < k ∧ W1 (j + 1) k' H') ∧ ∀ x H', J.yld j H x H' → g x (L2.wipe σ vs) H' fun σ3 H5 => L2.wipe σ3 vs = L2.wipe σ vs ∧ tt σ3 H5 fun b H6 =>
      if b = true then te σ3 H6 fun y H7 => ∃ acc, H7 D = some (.lst acc) ∧ acc.length < sizeLine ∧ Nx1 (upd H7 D (.lst (acc ++ [y]))) else Nx1 H6) := by
  refine ⟨fun i m H' => m = ds.length - i ∧ i ≤ ds.length ∧ ∃ env_i acc va, Rep K B (L2.wipe σ vs) H' env_i l ∧ (∀ b o, b ≠ D → b ∉ l → H0 b = some o → H' b = some o) ∧ H' D = some (.lst va) ∧ DaAll K (off (un B l) H') va acc ∧ (∀ j ∈ vs, ∀ w, env_i[j]? ≠ some (some w)) ∧ compM p ft fe vs (ds.drop i) acc env_i = some (.ok out e9),
    ⟨ds.length, by simp, Nat.zero_le _, env0, acc0, va0, r0, fun b o _ _ e => e, hD0, da0, fre0, hc0⟩, ?_⟩
  rintro i m H2 ⟨rfl, hi, ei, acc, va, ri, fri, hDi, dai, fre, hc⟩
  by_cases hlt : i < ds.length
  · refine .inr ⟨wk.goes i H2 hlt trivial, fun H' => ∃ env_i acc va, Rep K B (L2.wipe σ vs) H' env_i l ∧ (∀ b o, b ≠ D → b ∉ l → H0 b = some o → H' b = some o) ∧ H' D = some (.lst va) ∧ DaAll K (off (un B l) H') va acc ∧ (∀ j ∈ vs, ∀ w, env_i[j]? ≠ some (some w)) ∧ compM p ft fe vs (ds.drop (i + 1)) acc env_i = some (.ok out e9), fun H' z => ⟨ds.length - (i + 1), by omega, rfl, hlt, z⟩, fun x H3 hy => ?_⟩
    have hd' : ds.drop i = ds[i] :: ds.drop (i + 1) := List.drop_eq_getElem_cons hlt
    rw [hd'] at hc
    unfold compM at hc
    obtain ⟨e3, k, rfl, ek⟩ := hY i x H2 H3 ds[i] (wk.yields i H2 x H3 hlt trivial hy) (List.getElem?_eq_getElem hlt)
    subst e3
    have da : Da K (off (un B l) H3) (.int k) ds[i] := by rw [ek]; exact .int k
    cases q : p ds[i] ei with
    | none => rw [q] at hc; cases hc
    | some e2 =>
      rw [q] at hc
      simp only at hc
      have fr0 : free ei js := fun j z => by
        cases q0 : ei[j]? with
        | none => rfl
        | some w =>
          cases w with
          | none => rfl
          | some w => exact absurd q0 (fre j (hj j z) w)
      refine og.run ri da q fun σ4 l4 r4 m4 le4 k4 => ?_
      have el := le4 fr0
      subst el
      have sl : σ4.length = (L2.wipe σ vs).length := by rw [r4.len, (og.keep q).2.2, ri.len]
      have wp : L2.wipe σ4 vs = L2.wipe σ vs := by
        rw [wipe_ext sl fun j z => k4 j fun y => z (hj j y)]
        refine wipe_ext (wipe_length σ vs) fun j z => ?_
        rw [wipe_get]
        simp [z]
      refine ⟨wp, ?_⟩
      cases q2 : ft e2 with
      | none => rw [q2] at hc; cases hc
      | some z2 =>
        rw [q2] at hc
        cases z2 with
        | ex C f d => cases hc
        | ok b e3 =>
          refine ot.run r4 q2 fun H4 r5 f5 => ?_
          have nx : ∀ {e5 : En} {H5 : Hp}, Rep K B σ4 H5 e5 l4 → freeB e5 vs = true → Rep K B (L2.wipe σ vs) H5 (wipeE e5 vs) l4 ∧ ∀ j ∈ vs, ∀ w, (wipeE e5 vs)[j]? ≠ some (some w) := fun {e5 H5} r fb => by
            refine ⟨by rw [← wp]; exact r.wipe (freeB_free fb), fun j z w => ?_⟩
            rw [wipeE_get]
            simp only [z, if_true]
            split <;> exact fun q => by cases q
          have kD : ∀ {H5 : Hp}, Fr l4 H3 H5 → H5 D = some (.lst va) := fun f => f D _ nD hDi
          cases b with
          | false =>
            refine iteF ?_
            simp only [Bool.false_eq_true, if_false] at hc
            split at hc
            · rename_i fb
              obtain ⟨ra, rb⟩ := nx r5 fb
              exact ⟨_, acc, va, ra, fun b o n1 n2 e => f5 b o n2 (fri b o n1 n2 e), kD f5, DaAll.same f5.keep acc dai, rb, hc⟩
            · cases hc
          | true =>
            refine iteT ?_
            simp only [if_true] at hc
            cases q3 : fe e3 with
            | none => rw [q3] at hc; cases hc
            | some z3 =>
              rw [q3] at hc
              cases z3 with
              | ex C f d => cases hc
              | ok y e4 =>
                cases y with
                | slot _ => cases hc
                | exc _ _ _ => cases hc
                | dat y =>
                  simp only at hc
                  split at hc
                  · rename_i fb
                    refine oe.run r5 q3 fun v H5 r6 f6 q6 => ?_
                    have f26 := f5.trans f6
                    have sz : va.length < sizeLine := by rw [daAll_len dai]; exact Nat.lt_trans fb.2 (by decide)
                    refine ⟨va, kD f26, sz, ?_⟩
                    obtain ⟨ra, rb⟩ := nx r6 fb.1
                    have sub : Same (off (un B l4) H5) (off (un B l4) (upd H5 D (.lst (va ++ [v])))) := off_mono (fun b z n => absurd z n) fun b o n e => by rw [upd_ne (fun z => n (.inl (by rw [z]; exact hBD)))]; exact e
                    refine ⟨_, acc ++ [y], va ++ [v], ra.amb hBD trivial, fun b o n1 n2 e => ?_, upd_same, ?_, rb, hc⟩
                    · rw [upd_ne n1]
                      exact f26 b o n2 (fri b o n1 n2 e)
                    · exact daAll_append (DaAll.same sub acc (DaAll.same f26.keep acc dai)) (.cons (Da.same sub y q6) .nil)
                  · cases hc
  · have e : i = ds.length := by omega
    subst e
    rw [List.drop_length] at hc
    cases hc
    exact .inl ⟨wk.stops H2 trivial, hd H2 va ri fri hDi dai⟩
def comp2M (p : PyData → En → Option En) (ft : M Bool) (fi1 : M (List PyData)) (p1 : PyData → En → Option En) (ft1 : M Bool) (fe : M R) (vs vs1 : List Nat) : List PyData → List PyData → M (List PyData)
  | [], acc => M.pure acc
  | d :: ds, acc => fun env =>
    match p d env with
    | none => none
    | some e =>
      match ft e with
      | some (.ok b e2) => if b = true then
          match fi1 e2 with
          | some (.ok ds1 e3) => if freeB e3 vs1 = true then
              match compM p1 ft1 fe vs1 ds1 acc (wipeE e3 vs1) with
              | some (.ok acc' e4) => if freeB e4 vs = true then comp2M p ft fi1 p1 ft1 fe vs vs1 ds acc' (wipeE e4 vs) else none
              | _ => none
            else none
          | _ => none
        else if freeB e2 vs = true then comp2M p ft fi1 p1 ft1 fe vs vs1 ds acc (wipeE e2 vs) else none
      | _ => none
theorem comp2M_noex {p p1 : PyData → En → Option En} {ft ft1 : M Bool} {fi1 : M (List PyData)} {fe : M R} {vs vs1 : List Nat} : ∀ {ds acc : List PyData} {env : En} {C : Addr} {f : Str} {d : PyData}, comp2M p ft fi1 p1 ft1 fe vs vs1 ds acc env ≠ some (.ex C f d)
  | [], acc, env, C, f, d, h => by cases h
  | d :: ds, acc, env, C, f, d', h => by
    unfold comp2M at h
    split at h
    · cases h
    · split at h
      · split at h
        · split at h
          · split at h
            · split at h
              · split at h
                · exact comp2M_noex h
                · cases h
              · cases h
            · cases h
          · cases h
        · split at h
          · exact comp2M_noex h
          · cases h
      · cases h
def lc2W (fi : M (List PyData)) (p : PyData → En → Option En) (ft : M Bool) (fi1 : M (List PyData)) (p1 : PyData → En → Option En) (ft1 : M Bool) (fe : M R) (vs vs1 : List Nat) : M Wv :=
  M.bind fi fun ds => fun env => if freeB env vs = true then (M.bind (comp2M p ft fi1 p1 ft1 fe vs vs1 ds []) fun out => M.pure (.own (dats out))) (wipeE env vs) else none
theorem OkW.lc2 {wi wi1 : TI} {g g1 : TG} {tt tt1 : TT} {te : TE} {vs vs1 js js1 : List Nat} {fi fi1 : M (List PyData)} {p p1 : PyData → En → Option En} {ft ft1 : M Bool} {fe : M R} (oi : OkI K E wi fi) (og : OkG K g js p) (hj : ∀ j ∈ js, j ∈ vs) (ot : OkT K L2.E0 tt ft)
    (oi1 : OkJ K L2.E0 wi1 fi1) (og1 : OkG K g1 js1 p1) (hj1 : ∀ j ∈ js1, j ∈ vs1) (hv : ∀ j ∈ vs1, j ∈ vs) (ot1 : OkT K L2.E0 tt1 ft1) (oe : OkE K L2.E0 te fe) :
    OkW K E (tLc2 wi g tt wi1 g1 tt1 te vs vs1) (lc2W fi p ft fi1 p1 ft1 fe vs vs1) := by
  refine ⟨?_⟩
  intro B σ H env l rs rp h Q post
  rcases bind_some h with ⟨ds, e0, h1, h2⟩ | ⟨C, f, d, h1, h2⟩
  case inr => exact oi.run rp h1 (post.exn C f d h2)
  split at h2
  case isFalse => cases h2
  rename_i hf0
  rcases bind_some h2 with ⟨out, e9, h3, h4⟩ | ⟨C, f, d, h3, _⟩
  case inr => exact absurd h3 comp2M_noex
  cases h4
  refine oi.run rp h1 ?_
  intro J H1 G Y r1 f1 wk hG hY D hD
  have nD : ∀ b ∈ l, b ≠ D := fun b z e => r1.fresh hD (.inr (e ▸ z))
  have nD' : D ∉ l := fun z => nD D z rfl
  have r1' : Rep K (un B [D]) σ (upd H1 D (.lst [])) e0 l := r1.grow (same_new hD _) (fun _ z => .inl z) (fun b z => z.imp id fun z => by rw [List.mem_singleton.mp z]; exact hD) fun b z => by
    by_cases e : b = D
    · subst e; exact ⟨_, upd_same, trivial⟩
    · rw [upd_ne e]; exact r1.tb b (z.resolve_right fun z => e (List.mem_singleton.mp z))
  have hBD : (un B [D]) D := .inr (List.mem_cons_self ..)
  refine ⟨fun i m H' => m = ds.length - i ∧ i ≤ ds.length ∧ ∃ env_i acc va, Rep K (un B [D]) (L2.wipe σ vs) H' env_i l ∧ Fr l H1 H' ∧ H' D = some (.lst va) ∧ DaAll K (off (un (un B [D]) l) H') va acc ∧ (∀ j ∈ vs, ∀ w, env_i[j]? ≠ some (some w)) ∧ comp2M p ft fi1 p1 ft1 fe vs vs1 (ds.drop i) acc env_i = some (.ok out e9), ⟨ds.length, by simp, Nat.zero_le _, _, [], [], r1'.wipe (freeB_free hf0), Fr.of (same_new hD _), upd_same, .nil, fun j z w => ?_, h3⟩, ?_⟩
  · rw [wipeE_get]
    simp only [z, if_true]
    split <;> exact fun q => by cases q
  rintro i m H2 ⟨rfl, hi, ei, acc, va, ri, fri, hDi, dai, fre, hc⟩
  by_cases hlt : i < ds.length
  · refine .inr ⟨wk.goes i H2 hlt (hG H2 fri), fun H' => ∃ env_i acc va, Rep K (un B [D]) (L2.wipe σ vs) H' env_i l ∧ Fr l H1 H' ∧ H' D = some (.lst va) ∧ DaAll K (off (un (un B [D]) l) H') va acc ∧ (∀ j ∈ vs, ∀ w, env_i[j]? ≠ some (some w)) ∧ comp2M p ft fi1 p1 ft1 fe vs vs1 (ds.drop (i + 1)) acc env_i = some (.ok out e9), fun H' z => ⟨ds.length - (i + 1), by omega, rfl, hlt, z⟩, fun x H3 hy => ?_⟩
    have hd : ds.drop i = ds[i] :: ds.drop (i + 1) := List.drop_eq_getElem_cons hlt
    rw [hd] at hc
    unfold comp2M at hc
    obtain ⟨s3, da⟩ := hY i x H2 H3 ds[i] (un (un B [D]) l) fri (wk.yields i H2 x H3 hlt (hG H2 fri) hy) (List.getElem?_eq_getElem hlt) (fun b z => z.elim (fun z => z.elim (fun z => .inl (.inl z)) fun z => by rw [List.mem_singleton.mp z]; exact .inr hD) fun z => .inl (.inr z)) ri.tl
    have r3 := ri.same s3
    cases q : p ds[i] ei with
    | none => rw [q] at hc; cases hc
    | some e2 =>
      rw [q] at hc
      simp only at hc
      have fr0 : free ei js := fun j z => by
        cases q0 : ei[j]? with
        | none => rfl
        | some w =>
          cases w with
          | none => rfl
          | some w => exact absurd q0 (fre j (hj j z) w)
      refine og.run r3 da q fun σ4 l4 r4 m4 le4 k4 => ?_
      have el := le4 fr0
      subst el
      have sl : σ4.length = (L2.wipe σ vs).length := by rw [r4.len, (og.keep q).2.2, ri.len]
      have wp : L2.wipe σ4 vs = L2.wipe σ vs := by
        rw [wipe_ext sl fun j z => k4 j fun y => z (hj j y)]
        refine wipe_ext (wipe_length σ vs) fun j z => ?_
        rw [wipe_get]
        simp [z]
      have wp1 : L2.wipe (L2.wipe σ4 vs1) vs = L2.wipe σ vs := by
        rw [← wp]
        refine wipe_ext (wipe_length σ4 vs1) fun j z => ?_
        rw [wipe_get]
        have nz : j ∉ vs1 := fun y => z (hv j y)
        simp [nz]
      refine ⟨wp, ?_⟩
      cases q2 : ft e2 with
      | none => rw [q2] at hc; cases hc
      | some z2 =>
        rw [q2] at hc
        cases z2 with
        | ex C f d => cases hc
        | ok b e3 =>
          refine ot.run r4 q2 fun H4 r5 f5 => ?_
          have f25 : Fr l4 H2 H4 := (Fr.of s3).trans f5
          have kD : ∀ {H5 : Hp}, Fr l4 H2 H5 → H5 D = some (.lst va) := fun f => f D _ nD' hDi
          have fr9 : ∀ {e5 : En}, ∀ j ∈ vs, ∀ w, (wipeE e5 vs)[j]? ≠ some (some w) := fun {e5} j z w => by
            rw [wipeE_get]
            simp only [z, if_true]
            split <;> exact fun q => by cases q
          cases b with
          | false =>
            refine iteF ?_
            simp only [Bool.false_eq_true, if_false] at hc
            split at hc
            · rename_i fb
              exact ⟨_, acc, va, by rw [← wp]; exact r5.wipe (freeB_free fb), fri.trans f25, kD f25, DaAll.same f25.keep acc dai, fr9, hc⟩
            · cases hc
          | true =>
            refine iteT ?_
            simp only [if_true] at hc
            cases q3 : fi1 e3 with
            | none => rw [q3] at hc; cases hc
            | some z3 =>
              rw [q3] at hc
              cases z3 with
              | ex C f d => cases hc
              | ok ds1 e4 =>
                simp only at hc
                split at hc
                case isFalse => cases hc
                rename_i fb1
                cases q4 : compM p1 ft1 fe vs1 ds1 acc (wipeE e4 vs1) with
                | none => rw [q4] at hc; cases hc
                | some z4 =>
                  rw [q4] at hc
                  cases z4 with
                  | ex C f d => cases hc
                  | ok acc' e5 =>
                    simp only at hc
                    split at hc
                    case isFalse => cases hc
                    rename_i fb2
                    refine oi1.run r5 q3 ?_
                    intro J1 H5 Y1 r6 f6 wk1 hY1
                    have f26 := f25.trans f6
                    refine comp_turns hBD nD' wk1 hY1 og1 hj1 ot1 oe (r6.wipe (freeB_free fb1)) (kD f26) (DaAll.same f26.keep acc dai) (fun j z w => ?_) q4 fun H' va' r' k' d' a' => ?_
                    · rw [wipeE_get]
                      simp only [z, if_true]
                      split <;> exact fun q => by cases q
                    · refine ⟨_, acc', va', by rw [← wp1]; exact r'.wipe (freeB_free fb2), fun b o n e => k' b o (ne_of_none e hD) n ((fri.trans f26) b o n e), d', a', fr9, hc⟩
  · have e : i = ds.length := by omega
    subst e
    rw [List.drop_length] at hc
    cases hc
    have rr : Rep K (un B [D]) σ H2 e9 l := ⟨ri.rp.any (wipe_length σ vs) fun j w q => by
      rw [wipe_get]
      by_cases z : j ∈ vs
      · exact absurd q (fre j z w)
      · simp [z], ri.nd, ri.out, ri.tb⟩
    refine .inl ⟨wk.stops H2 (hG H2 fri), post (.ref D) H2 [D] rr (f1.trans fri) ⟨D, va, [], rfl, rfl, hDi, rp1s_of dai⟩ (List.nodup_cons.mpr ⟨by simp, List.nodup_nil⟩) fun b z => ?_⟩
    rw [List.mem_singleton.mp z]
    cases q : H D with
    | none => rfl
    | some o =>
      rw [f1 D o (fun z => nD D z rfl) q] at hD
      cases hD
/-! what it does -/
theorem comp2_go {env e e2 e3 e4 : En} {p p1 : PyData → En → Option En} {ft ft1 : M Bool} {fi1 : M (List PyData)} {fe : M R} {vs vs1 : List Nat} {d : PyData} {ds ds1 acc acc' : List PyData} (h1 : p d env = some e) (h2 : ft e = some (.ok true e2)) (h3 : fi1 e2 = some (.ok ds1 e3)) (h4 : freeB e3 vs1 = true) (h5 : compM p1 ft1 fe vs1 ds1 acc (wipeE e3 vs1) = some (.ok acc' e4)) (h6 : freeB e4 vs = true) :
    comp2M p ft fi1 p1 ft1 fe vs vs1 (d :: ds) acc env = comp2M p ft fi1 p1 ft1 fe vs vs1 ds acc' (wipeE e4 vs) := by
  simp only [comp2M, h1, h2, h3, h4, h5, h6, if_true]
theorem lc2_eq {env e e2 e3 : En} {fi fi1 : M (List PyData)} {p p1 : PyData → En → Option En} {ft ft1 : M Bool} {fe : M R} {vs vs1 : List Nat} {ds out : List PyData} (h1 : fi env = some (.ok ds e)) (h2 : freeB e vs = true) (h3 : wipeE e vs = e2) (h4 : comp2M p ft fi1 p1 ft1 fe vs vs1 ds [] e2 = some (.ok out e3)) :
    lc2W fi p ft fi1 p1 ft1 fe vs vs1 env = some (.ok (.own (dats out)) e3) := by
  show cont (fi env) _ = _
  rw [h1]
  show (if freeB e vs = true then (M.bind (comp2M p ft fi1 p1 ft1 fe vs vs1 ds []) fun out => M.pure (Wv.own (dats out))) (wipeE e vs) else none) = _
  rw [if_pos h2, h3]
  show cont (comp2M p ft fi1 p1 ft1 fe vs vs1 ds [] e2) _ = _
  rw [h4]
  rfl
end
end Ov

set_option Elab.async false
set_option linter.all false
set_option maxRecDepth 100000
set_option maxHeartbeats 4000000
namespace Ov
open PySem L2
/-! x op= e of numbers; two items of a list change places -/
section
variable {K : PySem.W.Frag} {E : XK} {bx : Bool}
def augS (i : Nat) (fo : PyData → PyData → Option PyData) (fe : M R) : M Fl :=
  M.bind (get i) fun a => M.bind (lift (asI a)) fun x => M.bind fe fun b => M.bind (lift (asI b)) fun y => M.bind (lift (fo (.int x) (.int y))) fun d => M.bind (putM i (.dat d)) fun _ => M.pure .nx
theorem OkS.aug {i : Nat} {te : TE} {ti : TIp} {fo : PyData → PyData → Option PyData} {fe : M R} (hb : bx = true → i ≠ 0) (ht : ∀ (x y : Int) (d : PyData), fo (.int x) (.int y) = some d → ∃ z : Int, d = .int z ∧ ∀ (H : Hp) (Q : VK), Q (.int z) H → ti (.int x) (.int y) H Q) (oe : OkE K E te fe) :
    OkS K E bx (tAug i te ti) (augS i fo fe) := by
  refine ⟨?_⟩
  intro B σ H env l rs rp h D post
  show tVar i σ H (fun x H0 => te σ H0 fun y H1 => ti x y H1 fun z H2 => D.nx (σ.set i (some z)) H2)
  refine (OkE.var i).seq rp h post.exn fun a e v H1 h1 r1 f1 q1 => ?_
  obtain ⟨x, h2, h3⟩ := lift_step h1
  rw [asI_some h2] at q1
  cases q1
  refine oe.seq r1 h3 (exn_later post.exn f1) fun b e2 v2 H2 h4 r2 f2 q2 => ?_
  obtain ⟨y, h5, h6⟩ := lift_step h4
  rw [asI_some h5] at q2
  cases q2
  obtain ⟨d, h7, h8⟩ := lift_step h6
  obtain ⟨z, rfl, hz⟩ := ht x y d h7
  obtain ⟨hi, h9⟩ := putM_step h8
  cases h9
  obtain ⟨l', r', m1, m2⟩ := r2.putD hi (.int z)
  exact hz H2 _ (post _ H2 l' r' ⟨f1.trans f2, fun b z => .inl (m1 b z)⟩ fun z => List.getElem?_set_ne (hb z))
theorem aug_add (x y : Int) (d : PyData) (h : addD (.int x) (.int y) = some d) : ∃ z : Int, d = .int z ∧ ∀ (H : Hp) (Q : VK), Q (.int z) H → ipI (fun i j => i + j) (.int x) (.int y) H Q := by
  cases h
  exact ⟨_, rfl, fun H Q q => ⟨x, y, rfl, rfl, q⟩⟩
theorem aug_sub (x y : Int) (d : PyData) (h : subD (.int x) (.int y) = some d) : ∃ z : Int, d = .int z ∧ ∀ (H : Hp) (Q : VK), Q (.int z) H → ipI (fun i j => i - j) (.int x) (.int y) H Q := by
  cases h
  exact ⟨_, rfl, fun H Q q => ⟨x, y, rfl, rfl, q⟩⟩
def ipM : TIp := fun x y H Q => ∃ i j, x = .int i ∧ y = .int j ∧ CMul i j ∧ Q (.int (i * j)) H
theorem ip_mul {X : Cx} : PIp X .Mult ipM := by
  intro pins s σ H x y v u Q I r1 r2 h
  obtain ⟨i, j, e1, e2, c, q⟩ := h
  subst e1; subst e2
  obtain ⟨t, rfl⟩ := r1
  obtain ⟨t', rfl⟩ := r2
  exact PySem.P.imul_int ⟨.int _, H, I.tok _, ⟨_, rfl⟩, q⟩ c.ok
theorem v_mulD (x y : Int) (h : pMul x y = true) : mulD (.int x) (.int y) = some (.int (x * y)) := by
  show (if pMul x y = true then some (PyData.int (x * y)) else none) = _
  rw [if_pos h]
theorem aug_mul (x y : Int) (d : PyData) (h : mulD (.int x) (.int y) = some d) : ∃ z : Int, d = .int z ∧ ∀ (H : Hp) (Q : VK), Q (.int z) H → ipM (.int x) (.int y) H Q := by
  have h' : (if pMul x y = true then some (PyData.int (x * y)) else none) = some d := h
  split at h'
  · rename_i c
    cases h'
    exact ⟨_, rfl, fun H Q q => ⟨x, y, rfl, rfl, (Bool.or_eq_true_iff.mp c).imp of_decide_eq_true of_decide_eq_true, q⟩⟩
  · cases h'
theorem bindA {α β γ : Type} (x : M α) (f : α → M β) (g : β → M γ) : M.bind (M.bind x f) g = M.bind x fun a => M.bind (f a) g := by
  funext env
  unfold M.bind
  cases x env with
  | none => rfl
  | some z => cases z <;> rfl
def as2 : R → Option (PyData × PyData)
  | .dat (.tuple [a, b]) => some (a, b)
  | _ => none
theorem as2_some {r : R} {x : PyData × PyData} (h : as2 r = some x) : r = .dat (.tuple [x.1, x.2]) := by
  unfold as2 at h
  split at h
  · cases h; rfl
  · cases h
def putIx (i : Nat) (d : PyData) (fk : M R) : M Unit := M.bind (ownD i) fun _ => M.bind fk fun k => M.bind (lift (asI k)) fun k => M.bind (ownD i) fun ds => M.bind (lift (ixN ds.length k)) fun j => setOwn i (ds.set j d)
def swS (i : Nat) (fe f1 f2 : M R) : M Fl := M.bind fe fun r => M.bind (lift (as2 r)) fun x => M.bind (putIx i x.1 f1) fun _ => M.bind (putIx i x.2 f2) fun _ => M.pure .nx
theorem putIx_run {i : Nat} {tk : TE} {fk : M R} (ok : OkE K E tk fk) {B : Addr → Prop} {σ : St} {H : Hp} {env : En} {l : List Addr} {v : V} {d : PyData} {g : Unit → M Fl} {rs : Rs Fl} {Q : St → Hp → Prop} (r : Rep K B σ H env l) (dv : Da K (off (un B l) H) v d) (h : (M.bind (putIx i d fk) g) env = some rs)
    (hx : ∀ C f d, rs = .ex C f d → Exn K E B H l C f d) (hq : ∀ e H', g () e = some rs → Rep K B σ H' e l → Fr l H H' → Q σ H') : gSub (tVar i) tk rSetL v σ H Q := by
  have h : (M.bind (ownD i) fun _ => M.bind fk fun k => M.bind (lift (asI k)) fun k => M.bind (ownD i) fun ds => M.bind (lift (ixN ds.length k)) fun j => M.bind (setOwn i (ds.set j d)) g) env = some rs := by
    rw [← h]
    unfold putIx
    simp only [bindA]
  obtain ⟨ds0, hx0, h4⟩ := ownD_step h
  obtain ⟨p, vs0, s1, s2, s3, s4, _⟩ := r.mut hx0
  refine ⟨.ref p, s1, ?_⟩
  refine ok.seq r h4 hx fun k e2 v2 H2 h5 r2 f2 q2 => ?_
  obtain ⟨k', h6, h7⟩ := lift_step h5
  obtain ⟨ds, hx2, h8⟩ := ownD_step h7
  obtain ⟨j, h9, ha⟩ := lift_step h8
  have hb := setOwn_step ha
  obtain ⟨p', vs, t1, t2, t3, t4, t5⟩ := r2.mut hx2
  rw [s1] at t1
  cases t1
  rw [asI_some h6] at q2
  cases q2
  refine ⟨p, vs, k', j, rfl, rfl, t2, by rw [daAll_len t4]; exact h9, ?_⟩
  exact hq _ _ hb (t5 (daAll_set (Da.same f2.keep d dv) t4 j)) (f2.trans (fr_upd t3))
theorem OkS.sw {i : Nat} {te t1 t2 : TE} {fe f1 f2 : M R} (oe : OkE K E te fe) (o1 : OkE K E t1 f1) (o2 : OkE K E t2 f2) : OkS K E bx (tAsg te (gTup K 2 (gCons (gSub (tVar i) t1 rSetL) (gCons (gSub (tVar i) t2 rSetL) gNil)))) (swS i fe f1 f2) := by
  refine ⟨?_⟩
  intro B σ H env l rs rp h D post
  refine oe.seq rp h post.exn fun a e v H1 h1 r1 f1 q1 => ?_
  obtain ⟨x, h2, h3⟩ := lift_step h1
  rw [as2_some h2] at q1
  have q1 : Da K (off (un B l) H1) v (.tuple [x.1, x.2]) := q1
  cases q1 with
  | tup hq ha =>
    cases ha with
    | cons d1 t1 =>
      cases t1 with
      | cons d2 t2 =>
        cases t2
        refine ⟨_, _, rfl, seqT (off_sub _ _) hq, rfl, _, _, rfl, ?_⟩
        refine putIx_run o1 r1 d1 h3 (exn_later post.exn f1) fun e2 H2 h4 r2 g2 => ?_
        refine ⟨_, _, rfl, ?_⟩
        refine putIx_run o2 r2 (Da.same g2.keep _ d2) h4 (exn_later post.exn (f1.trans g2)) fun e3 H3 h5 r3 g3 => ?_
        cases h5
        exact ⟨rfl, post σ H3 l r3 (Fr2.of ((f1.trans g2).trans g3)) fun _ => rfl⟩
end
end Ov

set_option Elab.async false
set_option linter.all false
set_option maxRecDepth 100000
set_option maxHeartbeats 4000000
namespace Ov
open PySem L2
theorem vals_getD : ∀ {zs : List V} {ws : List Value}, Vals zs ws → ∀ i : Nat, RelV (zs.getD i .non) (ws.getD i .none)
  | _, _, .nil, i => by simp; rfl
  | _, _, .cons r t, 0 => r
  | _, _, .cons r t, i + 1 => by
    have := vals_getD t i
    simpa using this
theorem vals_perm {zs : List V} {ws : List Value} (r : Vals zs ws) : ∀ π : List Nat, Vals (π.map fun i => zs.getD i .non) (π.map fun i => ws.getD i .none)
  | [] => .nil
  | i :: q => .cons (vals_getD r i) (vals_perm r q)
theorem kbn_perm {K : PySem.W.Frag} {x qual : Str} {st : Stmt} {f : Addr} {fd : FuncData} {ps : List Str} (F : Fun K x qual st f fd) (ks : List Str) (π : List Nat)
    (h : ∀ (kV doc pm : Value) (an : Option Addr) (cdv ct : Value) (ws : List Value), ws.length = ks.length → bindArgs (PySem.W.fnOf x qual (defArgs st) (defBody st) (defScope st) .none kV doc pm an cdv ct) ⟨[], ks.zip ws⟩ = pure (ps.zip (π.map fun i => ws.getD i .none))) :
    KBn K fd ps 0 ks (fun _ ws => π.map fun i => ws.getD i .none) (fun _ zs => π.map fun i => zs.getD i .non) := by
  obtain ⟨oc, od, kV, doc, pm, an, cdv, ct, osl, rfl, lk, hcd⟩ := F.ex
  refine ⟨fun s us ws _ l1 l2 => ?_, fun _ r2 => vals_perm r2 π⟩
  cases us with
  | nil => exact .of_eq (h kV doc pm an cdv ct ws l2)
  | cons _ _ => cases l1
theorem law_sp {K : PySem.W.Frag} {H : Hp} {a : Addr} {ns : List Int} {E : XK} (F : List PyData → Option Wv) (hF : F [.list (ns.map .int)] = some (.dat (.bool true))) (h : SqL K H a (ns.map V.int)) : spA K F [.ref a] H (fun v _ => v = .bl true) E := by
  refine ⟨fun _ => False, [.list (ns.map .int)], .dat (.bool true), .cons (.lst (rd_same (fun b o e => (off_ne (fun z => z)).trans e) h) (da_ints _)) .nil, fun _ z => z.elim, hF, fun v H' lw s q nd no => ?_⟩
  obtain ⟨_, d⟩ := q
  cases d
  rfl
end Ov

set_option Elab.async false
set_option linter.all false
set_option maxRecDepth 100000
set_option maxHeartbeats 4000000
namespace Ov
open PySem L2
/-! what pieces that change nothing give, piece by piece -/
def Gv (f : M R) (env : En) (d : PyData) : Prop := f env = some (.ok (.dat d) env)
section
variable {env : En} {f g h : M R} {a b c d : PyData} {F : List PyData → Option Wv} {t u : M Bool} {x y : Bool} {s s2 : M Fl} {i : Nat}
theorem get_ok (e : env[i]? = some (some (.dat d))) : Gv (get i) env d := by
  unfold Gv
  simp [v_bind, v_ok, v_none, v_pure, v_lift, v_liftN, v_con, v_get, v_gkd, v_gko, v_gkc, v_vwd, v_vws, v_ok1, v_ownD, v_dctD, v_dk1, v_setOwn, v_putM, v_op2, v_op1, v_anil, v_acons, v_vws0, v_vwsC, v_cb, v_tupD, v_lstD, v_lstW, v_listW, v_dds0, v_ddsC, v_asB, v_tb1, v_andT, v_orT, v_notT, v_andV, v_orV, v_notV, v_ofB, v_ifE, v_pl, v_toW, v_fz, v_ofWd, v_ofWo, v_nxt, v_thenS, v_exprS, v_retS, v_retN, v_ifS, v_setS, v_parS, v_setIx, v_asD, v_asI, v_mthE, v_callA, v_callB, v_forS, v_argI, v_seqI, v_slD, v_poN, v_poS, v_isiE, v_isiE2, v_isNE, v_dnew, v_dinT, v_dputS, v_sortDct, v_rgE, v_rg2, v_unS, v_catW, v_chainE, v_add, v_sub, v_lt, v_le, v_gt, v_ge, v_eqI, v_eqB, v_eqS, v_ixL, v_ixT, v_lenL, v_lenT, v_abs, v_intI, v_intB, v_min, v_max, v_chk, e]
theorem con_ok : Gv (con d) env d := rfl
theorem op2_ok {fo : PyData → PyData → Option PyData} (h1 : Gv f env a) (h2 : Gv g env b) (h3 : fo a b = some c) : Gv (op2 fo f g) env c := by
  unfold Gv at *
  simp [v_bind, v_ok, v_none, v_pure, v_lift, v_liftN, v_con, v_get, v_gkd, v_gko, v_gkc, v_vwd, v_vws, v_ok1, v_ownD, v_dctD, v_dk1, v_setOwn, v_putM, v_op2, v_op1, v_anil, v_acons, v_vws0, v_vwsC, v_cb, v_tupD, v_lstD, v_lstW, v_listW, v_dds0, v_ddsC, v_asB, v_tb1, v_andT, v_orT, v_notT, v_andV, v_orV, v_notV, v_ofB, v_ifE, v_pl, v_toW, v_fz, v_ofWd, v_ofWo, v_nxt, v_thenS, v_exprS, v_retS, v_retN, v_ifS, v_setS, v_parS, v_setIx, v_asD, v_asI, v_mthE, v_callA, v_callB, v_forS, v_argI, v_seqI, v_slD, v_poN, v_poS, v_isiE, v_isiE2, v_isNE, v_dnew, v_dinT, v_dputS, v_sortDct, v_rgE, v_rg2, v_unS, v_catW, v_chainE, v_add, v_sub, v_lt, v_le, v_gt, v_ge, v_eqI, v_eqB, v_eqS, v_ixL, v_ixT, v_lenL, v_lenT, v_abs, v_intI, v_intB, v_min, v_max, v_chk, h1, h2, h3]
theorem op1_ok {fo : PyData → Option PyData} (h1 : Gv f env a) (h3 : fo a = some c) : Gv (op1 fo f) env c := by
  unfold Gv at *
  simp [v_bind, v_ok, v_none, v_pure, v_lift, v_liftN, v_con, v_get, v_gkd, v_gko, v_gkc, v_vwd, v_vws, v_ok1, v_ownD, v_dctD, v_dk1, v_setOwn, v_putM, v_op2, v_op1, v_anil, v_acons, v_vws0, v_vwsC, v_cb, v_tupD, v_lstD, v_lstW, v_listW, v_dds0, v_ddsC, v_asB, v_tb1, v_andT, v_orT, v_notT, v_andV, v_orV, v_notV, v_ofB, v_ifE, v_pl, v_toW, v_fz, v_ofWd, v_ofWo, v_nxt, v_thenS, v_exprS, v_retS, v_retN, v_ifS, v_setS, v_parS, v_setIx, v_asD, v_asI, v_mthE, v_callA, v_callB, v_forS, v_argI, v_seqI, v_slD, v_poN, v_poS, v_isiE, v_isiE2, v_isNE, v_dnew, v_dinT, v_dputS, v_sortDct, v_rgE, v_rg2, v_unS, v_catW, v_chainE, v_add, v_sub, v_lt, v_le, v_gt, v_ge, v_eqI, v_eqB, v_eqS, v_ixL, v_ixT, v_lenL, v_lenT, v_abs, v_intI, v_intB, v_min, v_max, v_chk, h1, h3]
theorem op2_own {fo : PyData → PyData → Option PyData} {M : List PyData} (e : env[i]? = some (some (.own (dats M)))) (h2 : Gv g env b) (h3 : fo (.list M) b = some c) : Gv (op2 fo (get i) g) env c := by
  unfold Gv at *
  simp [v_bind, v_ok, v_none, v_pure, v_lift, v_liftN, v_con, v_get, v_gkd, v_gko, v_gkc, v_vwd, v_vws, v_ok1, v_ownD, v_dctD, v_dk1, v_setOwn, v_putM, v_op2, v_op1, v_anil, v_acons, v_vws0, v_vwsC, v_cb, v_tupD, v_lstD, v_lstW, v_listW, v_dds0, v_ddsC, v_asB, v_tb1, v_andT, v_orT, v_notT, v_andV, v_orV, v_notV, v_ofB, v_ifE, v_pl, v_toW, v_fz, v_ofWd, v_ofWo, v_nxt, v_thenS, v_exprS, v_retS, v_retN, v_ifS, v_setS, v_parS, v_setIx, v_asD, v_asI, v_mthE, v_callA, v_callB, v_forS, v_argI, v_seqI, v_slD, v_poN, v_poS, v_isiE, v_isiE2, v_isNE, v_dnew, v_dinT, v_dputS, v_sortDct, v_rgE, v_rg2, v_unS, v_catW, v_chainE, v_add, v_sub, v_lt, v_le, v_gt, v_ge, v_eqI, v_eqB, v_eqS, v_ixL, v_ixT, v_lenL, v_lenT, v_abs, v_intI, v_intB, v_min, v_max, v_chk, e, h2, h3]
theorem cb_own {fo : List PyData → Option PyData} {M : List PyData} (e : env[i]? = some (some (.own (dats M)))) (h3 : fo [.list M] = some c) : Gv (cb fo (acons (get i) anil)) env c := by
  unfold Gv at *
  simp [v_bind, v_ok, v_none, v_pure, v_lift, v_liftN, v_con, v_get, v_gkd, v_gko, v_gkc, v_vwd, v_vws, v_ok1, v_ownD, v_dctD, v_dk1, v_setOwn, v_putM, v_op2, v_op1, v_anil, v_acons, v_vws0, v_vwsC, v_cb, v_tupD, v_lstD, v_lstW, v_listW, v_dds0, v_ddsC, v_asB, v_tb1, v_andT, v_orT, v_notT, v_andV, v_orV, v_notV, v_ofB, v_ifE, v_pl, v_toW, v_fz, v_ofWd, v_ofWo, v_nxt, v_thenS, v_exprS, v_retS, v_retN, v_ifS, v_setS, v_parS, v_setIx, v_asD, v_asI, v_mthE, v_callA, v_callB, v_forS, v_argI, v_seqI, v_slD, v_poN, v_poS, v_isiE, v_isiE2, v_isNE, v_dnew, v_dinT, v_dputS, v_sortDct, v_rgE, v_rg2, v_unS, v_catW, v_chainE, v_add, v_sub, v_lt, v_le, v_gt, v_ge, v_eqI, v_eqB, v_eqS, v_ixL, v_ixT, v_lenL, v_lenT, v_abs, v_intI, v_intB, v_min, v_max, v_chk, e, h3]
theorem cb1_ok {fo : List PyData → Option PyData} (h1 : Gv f env a) (h3 : fo [a] = some c) : Gv (cb fo (acons f anil)) env c := by
  unfold Gv at *
  simp [v_bind, v_ok, v_none, v_pure, v_lift, v_liftN, v_con, v_get, v_gkd, v_gko, v_gkc, v_vwd, v_vws, v_ok1, v_ownD, v_dctD, v_dk1, v_setOwn, v_putM, v_op2, v_op1, v_anil, v_acons, v_vws0, v_vwsC, v_cb, v_tupD, v_lstD, v_lstW, v_listW, v_dds0, v_ddsC, v_asB, v_tb1, v_andT, v_orT, v_notT, v_andV, v_orV, v_notV, v_ofB, v_ifE, v_pl, v_toW, v_fz, v_ofWd, v_ofWo, v_nxt, v_thenS, v_exprS, v_retS, v_retN, v_ifS, v_setS, v_parS, v_setIx, v_asD, v_asI, v_mthE, v_callA, v_callB, v_forS, v_argI, v_seqI, v_slD, v_poN, v_poS, v_isiE, v_isiE2, v_isNE, v_dnew, v_dinT, v_dputS, v_sortDct, v_rgE, v_rg2, v_unS, v_catW, v_chainE, v_add, v_sub, v_lt, v_le, v_gt, v_ge, v_eqI, v_eqB, v_eqS, v_ixL, v_ixT, v_lenL, v_lenT, v_abs, v_intI, v_intB, v_min, v_max, v_chk, h1, h3]
theorem cb2_ok {fo : List PyData → Option PyData} (h1 : Gv f env a) (h2 : Gv g env b) (h3 : fo [a, b] = some c) : Gv (cb fo (acons f (acons g anil))) env c := by
  unfold Gv at *
  simp [v_bind, v_ok, v_none, v_pure, v_lift, v_liftN, v_con, v_get, v_gkd, v_gko, v_gkc, v_vwd, v_vws, v_ok1, v_ownD, v_dctD, v_dk1, v_setOwn, v_putM, v_op2, v_op1, v_anil, v_acons, v_vws0, v_vwsC, v_cb, v_tupD, v_lstD, v_lstW, v_listW, v_dds0, v_ddsC, v_asB, v_tb1, v_andT, v_orT, v_notT, v_andV, v_orV, v_notV, v_ofB, v_ifE, v_pl, v_toW, v_fz, v_ofWd, v_ofWo, v_nxt, v_thenS, v_exprS, v_retS, v_retN, v_ifS, v_setS, v_parS, v_setIx, v_asD, v_asI, v_mthE, v_callA, v_callB, v_forS, v_argI, v_seqI, v_slD, v_poN, v_poS, v_isiE, v_isiE2, v_isNE, v_dnew, v_dinT, v_dputS, v_sortDct, v_rgE, v_rg2, v_unS, v_catW, v_chainE, v_add, v_sub, v_lt, v_le, v_gt, v_ge, v_eqI, v_eqB, v_eqS, v_ixL, v_ixT, v_lenL, v_lenT, v_abs, v_intI, v_intB, v_min, v_max, v_chk, h1, h2, h3]
theorem tup2_ok (h1 : Gv f env a) (h2 : Gv g env b) : Gv (tupD (acons f (acons g anil))) env (.tuple [a, b]) := by
  unfold Gv at *
  simp [v_bind, v_ok, v_none, v_pure, v_lift, v_liftN, v_con, v_get, v_gkd, v_gko, v_gkc, v_vwd, v_vws, v_ok1, v_ownD, v_dctD, v_dk1, v_setOwn, v_putM, v_op2, v_op1, v_anil, v_acons, v_vws0, v_vwsC, v_cb, v_tupD, v_lstD, v_lstW, v_listW, v_dds0, v_ddsC, v_asB, v_tb1, v_andT, v_orT, v_notT, v_andV, v_orV, v_notV, v_ofB, v_ifE, v_pl, v_toW, v_fz, v_ofWd, v_ofWo, v_nxt, v_thenS, v_exprS, v_retS, v_retN, v_ifS, v_setS, v_parS, v_setIx, v_asD, v_asI, v_mthE, v_callA, v_callB, v_forS, v_argI, v_seqI, v_slD, v_poN, v_poS, v_isiE, v_isiE2, v_isNE, v_dnew, v_dinT, v_dputS, v_sortDct, v_rgE, v_rg2, v_unS, v_catW, v_chainE, v_add, v_sub, v_lt, v_le, v_gt, v_ge, v_eqI, v_eqB, v_eqS, v_ixL, v_ixT, v_lenL, v_lenT, v_abs, v_intI, v_intB, v_min, v_max, v_chk, h1, h2, sz]
theorem tup3_ok (h1 : Gv f env a) (h2 : Gv g env b) (h3 : Gv h env c) : Gv (tupD (acons f (acons g (acons h anil)))) env (.tuple [a, b, c]) := by
  unfold Gv at *
  simp [v_bind, v_ok, v_none, v_pure, v_lift, v_liftN, v_con, v_get, v_gkd, v_gko, v_gkc, v_vwd, v_vws, v_ok1, v_ownD, v_dctD, v_dk1, v_setOwn, v_putM, v_op2, v_op1, v_anil, v_acons, v_vws0, v_vwsC, v_cb, v_tupD, v_lstD, v_lstW, v_listW, v_dds0, v_ddsC, v_asB, v_tb1, v_andT, v_orT, v_notT, v_andV, v_orV, v_notV, v_ofB, v_ifE, v_pl, v_toW, v_fz, v_ofWd, v_ofWo, v_nxt, v_thenS, v_exprS, v_retS, v_retN, v_ifS, v_setS, v_parS, v_setIx, v_asD, v_asI, v_mthE, v_callA, v_callB, v_forS, v_argI, v_seqI, v_slD, v_poN, v_poS, v_isiE, v_isiE2, v_isNE, v_dnew, v_dinT, v_dputS, v_sortDct, v_rgE, v_rg2, v_unS, v_catW, v_chainE, v_add, v_sub, v_lt, v_le, v_gt, v_ge, v_eqI, v_eqB, v_eqS, v_ixL, v_ixT, v_lenL, v_lenT, v_abs, v_intI, v_intB, v_min, v_max, v_chk, h1, h2, h3, sz]
theorem lst0_ok : Gv (lstD anil) env (.list []) := by
  unfold Gv
  simp [v_bind, v_ok, v_none, v_pure, v_lift, v_liftN, v_con, v_get, v_gkd, v_gko, v_gkc, v_vwd, v_vws, v_ok1, v_ownD, v_dctD, v_dk1, v_setOwn, v_putM, v_op2, v_op1, v_anil, v_acons, v_vws0, v_vwsC, v_cb, v_tupD, v_lstD, v_lstW, v_listW, v_dds0, v_ddsC, v_asB, v_tb1, v_andT, v_orT, v_notT, v_andV, v_orV, v_notV, v_ofB, v_ifE, v_pl, v_toW, v_fz, v_ofWd, v_ofWo, v_nxt, v_thenS, v_exprS, v_retS, v_retN, v_ifS, v_setS, v_parS, v_setIx, v_asD, v_asI, v_mthE, v_callA, v_callB, v_forS, v_argI, v_seqI, v_slD, v_poN, v_poS, v_isiE, v_isiE2, v_isNE, v_dnew, v_dinT, v_dputS, v_sortDct, v_rgE, v_rg2, v_unS, v_catW, v_chainE, v_add, v_sub, v_lt, v_le, v_gt, v_ge, v_eqI, v_eqB, v_eqS, v_ixL, v_ixT, v_lenL, v_lenT, v_abs, v_intI, v_intB, v_min, v_max, v_chk, sz]
theorem lst1_ok (h1 : Gv f env a) : Gv (lstD (acons f anil)) env (.list [a]) := by
  unfold Gv at *
  simp [v_bind, v_ok, v_none, v_pure, v_lift, v_liftN, v_con, v_get, v_gkd, v_gko, v_gkc, v_vwd, v_vws, v_ok1, v_ownD, v_dctD, v_dk1, v_setOwn, v_putM, v_op2, v_op1, v_anil, v_acons, v_vws0, v_vwsC, v_cb, v_tupD, v_lstD, v_lstW, v_listW, v_dds0, v_ddsC, v_asB, v_tb1, v_andT, v_orT, v_notT, v_andV, v_orV, v_notV, v_ofB, v_ifE, v_pl, v_toW, v_fz, v_ofWd, v_ofWo, v_nxt, v_thenS, v_exprS, v_retS, v_retN, v_ifS, v_setS, v_parS, v_setIx, v_asD, v_asI, v_mthE, v_callA, v_callB, v_forS, v_argI, v_seqI, v_slD, v_poN, v_poS, v_isiE, v_isiE2, v_isNE, v_dnew, v_dinT, v_dputS, v_sortDct, v_rgE, v_rg2, v_unS, v_catW, v_chainE, v_add, v_sub, v_lt, v_le, v_gt, v_ge, v_eqI, v_eqB, v_eqS, v_ixL, v_ixT, v_lenL, v_lenT, v_abs, v_intI, v_intB, v_min, v_max, v_chk, h1, sz]
theorem lst2_ok (h1 : Gv f env a) (h2 : Gv g env b) : Gv (lstD (acons f (acons g anil))) env (.list [a, b]) := by
  unfold Gv at *
  simp [v_bind, v_ok, v_none, v_pure, v_lift, v_liftN, v_con, v_get, v_gkd, v_gko, v_gkc, v_vwd, v_vws, v_ok1, v_ownD, v_dctD, v_dk1, v_setOwn, v_putM, v_op2, v_op1, v_anil, v_acons, v_vws0, v_vwsC, v_cb, v_tupD, v_lstD, v_lstW, v_listW, v_dds0, v_ddsC, v_asB, v_tb1, v_andT, v_orT, v_notT, v_andV, v_orV, v_notV, v_ofB, v_ifE, v_pl, v_toW, v_fz, v_ofWd, v_ofWo, v_nxt, v_thenS, v_exprS, v_retS, v_retN, v_ifS, v_setS, v_parS, v_setIx, v_asD, v_asI, v_mthE, v_callA, v_callB, v_forS, v_argI, v_seqI, v_slD, v_poN, v_poS, v_isiE, v_isiE2, v_isNE, v_dnew, v_dinT, v_dputS, v_sortDct, v_rgE, v_rg2, v_unS, v_catW, v_chainE, v_add, v_sub, v_lt, v_le, v_gt, v_ge, v_eqI, v_eqB, v_eqS, v_ixL, v_ixT, v_lenL, v_lenT, v_abs, v_intI, v_intB, v_min, v_max, v_chk, h1, h2, sz]
theorem call1 (h1 : Gv f env a) (e : F [a] = some (.dat c)) : Gv (fz (callA F (acons f anil))) env c := by
  unfold Gv at *
  simp [v_bind, v_ok, v_none, v_pure, v_lift, v_liftN, v_con, v_get, v_gkd, v_gko, v_gkc, v_vwd, v_vws, v_ok1, v_ownD, v_dctD, v_dk1, v_setOwn, v_putM, v_op2, v_op1, v_anil, v_acons, v_vws0, v_vwsC, v_cb, v_tupD, v_lstD, v_lstW, v_listW, v_dds0, v_ddsC, v_asB, v_tb1, v_andT, v_orT, v_notT, v_andV, v_orV, v_notV, v_ofB, v_ifE, v_pl, v_toW, v_fz, v_ofWd, v_ofWo, v_nxt, v_thenS, v_exprS, v_retS, v_retN, v_ifS, v_setS, v_parS, v_setIx, v_asD, v_asI, v_mthE, v_callA, v_callB, v_forS, v_argI, v_seqI, v_slD, v_poN, v_poS, v_isiE, v_isiE2, v_isNE, v_dnew, v_dinT, v_dputS, v_sortDct, v_rgE, v_rg2, v_unS, v_catW, v_chainE, v_add, v_sub, v_lt, v_le, v_gt, v_ge, v_eqI, v_eqB, v_eqS, v_ixL, v_ixT, v_lenL, v_lenT, v_abs, v_intI, v_intB, v_min, v_max, v_chk, h1, e]
theorem call1o (h1 : Gv f env a) {C : List PyData} (e : F [a] = some (.own (dats C))) : Gv (fz (callA F (acons f anil))) env (.list C) := by
  unfold Gv at *
  simp [v_bind, v_ok, v_none, v_pure, v_lift, v_liftN, v_con, v_get, v_gkd, v_gko, v_gkc, v_vwd, v_vws, v_ok1, v_ownD, v_dctD, v_dk1, v_setOwn, v_putM, v_op2, v_op1, v_anil, v_acons, v_vws0, v_vwsC, v_cb, v_tupD, v_lstD, v_lstW, v_listW, v_dds0, v_ddsC, v_asB, v_tb1, v_andT, v_orT, v_notT, v_andV, v_orV, v_notV, v_ofB, v_ifE, v_pl, v_toW, v_fz, v_ofWd, v_ofWo, v_nxt, v_thenS, v_exprS, v_retS, v_retN, v_ifS, v_setS, v_parS, v_setIx, v_asD, v_asI, v_mthE, v_callA, v_callB, v_forS, v_argI, v_seqI, v_slD, v_poN, v_poS, v_isiE, v_isiE2, v_isNE, v_dnew, v_dinT, v_dputS, v_sortDct, v_rgE, v_rg2, v_unS, v_catW, v_chainE, v_add, v_sub, v_lt, v_le, v_gt, v_ge, v_eqI, v_eqB, v_eqS, v_ixL, v_ixT, v_lenL, v_lenT, v_abs, v_intI, v_intB, v_min, v_max, v_chk, h1, e]
theorem call2 (h1 : Gv f env a) (h2 : Gv g env b) (e : F [a, b] = some (.dat c)) : Gv (fz (callA F (acons f (acons g anil)))) env c := by
  unfold Gv at *
  simp [v_bind, v_ok, v_none, v_pure, v_lift, v_liftN, v_con, v_get, v_gkd, v_gko, v_gkc, v_vwd, v_vws, v_ok1, v_ownD, v_dctD, v_dk1, v_setOwn, v_putM, v_op2, v_op1, v_anil, v_acons, v_vws0, v_vwsC, v_cb, v_tupD, v_lstD, v_lstW, v_listW, v_dds0, v_ddsC, v_asB, v_tb1, v_andT, v_orT, v_notT, v_andV, v_orV, v_notV, v_ofB, v_ifE, v_pl, v_toW, v_fz, v_ofWd, v_ofWo, v_nxt, v_thenS, v_exprS, v_retS, v_retN, v_ifS, v_setS, v_parS, v_setIx, v_asD, v_asI, v_mthE, v_callA, v_callB, v_forS, v_argI, v_seqI, v_slD, v_poN, v_poS, v_isiE, v_isiE2, v_isNE, v_dnew, v_dinT, v_dputS, v_sortDct, v_rgE, v_rg2, v_unS, v_catW, v_chainE, v_add, v_sub, v_lt, v_le, v_gt, v_ge, v_eqI, v_eqB, v_eqS, v_ixL, v_ixT, v_lenL, v_lenT, v_abs, v_intI, v_intB, v_min, v_max, v_chk, h1, h2, e]
theorem call3 (h1 : Gv f env a) (h2 : Gv g env b) (h3 : Gv h env d) (e : F [a, b, d] = some (.dat c)) : Gv (fz (callA F (acons f (acons g (acons h anil))))) env c := by
  unfold Gv at *
  simp [v_bind, v_ok, v_none, v_pure, v_lift, v_liftN, v_con, v_get, v_gkd, v_gko, v_gkc, v_vwd, v_vws, v_ok1, v_ownD, v_dctD, v_dk1, v_setOwn, v_putM, v_op2, v_op1, v_anil, v_acons, v_vws0, v_vwsC, v_cb, v_tupD, v_lstD, v_lstW, v_listW, v_dds0, v_ddsC, v_asB, v_tb1, v_andT, v_orT, v_notT, v_andV, v_orV, v_notV, v_ofB, v_ifE, v_pl, v_toW, v_fz, v_ofWd, v_ofWo, v_nxt, v_thenS, v_exprS, v_retS, v_retN, v_ifS, v_setS, v_parS, v_setIx, v_asD, v_asI, v_mthE, v_callA, v_callB, v_forS, v_argI, v_seqI, v_slD, v_poN, v_poS, v_isiE, v_isiE2, v_isNE, v_dnew, v_dinT, v_dputS, v_sortDct, v_rgE, v_rg2, v_unS, v_catW, v_chainE, v_add, v_sub, v_lt, v_le, v_gt, v_ge, v_eqI, v_eqB, v_eqS, v_ixL, v_ixT, v_lenL, v_lenT, v_abs, v_intI, v_intB, v_min, v_max, v_chk, h1, h2, h3, e]
theorem fz_ok {W : M Wv} {C : List PyData} (e : W env = some (.ok (.own (dats C)) env)) : Gv (fz W) env (.list C) := by
  unfold Gv
  simp [v_bind, v_ok, v_none, v_pure, v_lift, v_liftN, v_con, v_get, v_gkd, v_gko, v_gkc, v_vwd, v_vws, v_ok1, v_ownD, v_dctD, v_dk1, v_setOwn, v_putM, v_op2, v_op1, v_anil, v_acons, v_vws0, v_vwsC, v_cb, v_tupD, v_lstD, v_lstW, v_listW, v_dds0, v_ddsC, v_asB, v_tb1, v_andT, v_orT, v_notT, v_andV, v_orV, v_notV, v_ofB, v_ifE, v_pl, v_toW, v_fz, v_ofWd, v_ofWo, v_nxt, v_thenS, v_exprS, v_retS, v_retN, v_ifS, v_setS, v_parS, v_setIx, v_asD, v_asI, v_mthE, v_callA, v_callB, v_forS, v_argI, v_seqI, v_slD, v_poN, v_poS, v_isiE, v_isiE2, v_isNE, v_dnew, v_dinT, v_dputS, v_sortDct, v_rgE, v_rg2, v_unS, v_catW, v_chainE, v_add, v_sub, v_lt, v_le, v_gt, v_ge, v_eqI, v_eqB, v_eqS, v_ixL, v_ixT, v_lenL, v_lenT, v_abs, v_intI, v_intB, v_min, v_max, v_chk, e]
theorem sl_to {k : Int} (h1 : Gv f env a) (h2 : Gv g env (.int k)) (h3 : cutD a none (some k) = some c) : Gv (slD f poN (poS g)) env c := by
  unfold Gv at *
  simp [v_bind, v_ok, v_none, v_pure, v_lift, v_liftN, v_con, v_get, v_gkd, v_gko, v_gkc, v_vwd, v_vws, v_ok1, v_ownD, v_dctD, v_dk1, v_setOwn, v_putM, v_op2, v_op1, v_anil, v_acons, v_vws0, v_vwsC, v_cb, v_tupD, v_lstD, v_lstW, v_listW, v_dds0, v_ddsC, v_asB, v_tb1, v_andT, v_orT, v_notT, v_andV, v_orV, v_notV, v_ofB, v_ifE, v_pl, v_toW, v_fz, v_ofWd, v_ofWo, v_nxt, v_thenS, v_exprS, v_retS, v_retN, v_ifS, v_setS, v_parS, v_setIx, v_asD, v_asI, v_mthE, v_callA, v_callB, v_forS, v_argI, v_seqI, v_slD, v_poN, v_poS, v_isiE, v_isiE2, v_isNE, v_dnew, v_dinT, v_dputS, v_sortDct, v_rgE, v_rg2, v_unS, v_catW, v_chainE, v_add, v_sub, v_lt, v_le, v_gt, v_ge, v_eqI, v_eqB, v_eqS, v_ixL, v_ixT, v_lenL, v_lenT, v_abs, v_intI, v_intB, v_min, v_max, v_chk, h1, h2, h3]
theorem sl_from {k : Int} (h1 : Gv f env a) (h2 : Gv g env (.int k)) (h3 : cutD a (some k) none = some c) : Gv (slD f (poS g) poN) env c := by
  unfold Gv at *
  simp [v_bind, v_ok, v_none, v_pure, v_lift, v_liftN, v_con, v_get, v_gkd, v_gko, v_gkc, v_vwd, v_vws, v_ok1, v_ownD, v_dctD, v_dk1, v_setOwn, v_putM, v_op2, v_op1, v_anil, v_acons, v_vws0, v_vwsC, v_cb, v_tupD, v_lstD, v_lstW, v_listW, v_dds0, v_ddsC, v_asB, v_tb1, v_andT, v_orT, v_notT, v_andV, v_orV, v_notV, v_ofB, v_ifE, v_pl, v_toW, v_fz, v_ofWd, v_ofWo, v_nxt, v_thenS, v_exprS, v_retS, v_retN, v_ifS, v_setS, v_parS, v_setIx, v_asD, v_asI, v_mthE, v_callA, v_callB, v_forS, v_argI, v_seqI, v_slD, v_poN, v_poS, v_isiE, v_isiE2, v_isNE, v_dnew, v_dinT, v_dputS, v_sortDct, v_rgE, v_rg2, v_unS, v_catW, v_chainE, v_add, v_sub, v_lt, v_le, v_gt, v_ge, v_eqI, v_eqB, v_eqS, v_ixL, v_ixT, v_lenL, v_lenT, v_abs, v_intI, v_intB, v_min, v_max, v_chk, h1, h2, h3]
theorem sl_mid {k l : Int} (h1 : Gv f env a) (h2 : Gv g env (.int k)) (h4 : Gv h env (.int l)) (h3 : cutD a (some k) (some l) = some c) : Gv (slD f (poS g) (poS h)) env c := by
  unfold Gv at *
  simp [v_bind, v_ok, v_none, v_pure, v_lift, v_liftN, v_con, v_get, v_gkd, v_gko, v_gkc, v_vwd, v_vws, v_ok1, v_ownD, v_dctD, v_dk1, v_setOwn, v_putM, v_op2, v_op1, v_anil, v_acons, v_vws0, v_vwsC, v_cb, v_tupD, v_lstD, v_lstW, v_listW, v_dds0, v_ddsC, v_asB, v_tb1, v_andT, v_orT, v_notT, v_andV, v_orV, v_notV, v_ofB, v_ifE, v_pl, v_toW, v_fz, v_ofWd, v_ofWo, v_nxt, v_thenS, v_exprS, v_retS, v_retN, v_ifS, v_setS, v_parS, v_setIx, v_asD, v_asI, v_mthE, v_callA, v_callB, v_forS, v_argI, v_seqI, v_slD, v_poN, v_poS, v_isiE, v_isiE2, v_isNE, v_dnew, v_dinT, v_dputS, v_sortDct, v_rgE, v_rg2, v_unS, v_catW, v_chainE, v_add, v_sub, v_lt, v_le, v_gt, v_ge, v_eqI, v_eqB, v_eqS, v_ixL, v_ixT, v_lenL, v_lenT, v_abs, v_intI, v_intB, v_min, v_max, v_chk, h1, h2, h3, h4]
theorem isn_ok {n b : Bool} {c : PyData} (e : Gv f env c) (hb : isNR (.dat c) = some b) : Gv (isNE n f) env (.bool (n ^^ b)) := by
  unfold Gv at *
  simp [v_bind, v_ok, v_none, v_pure, v_lift, v_liftN, v_con, v_get, v_gkd, v_gko, v_gkc, v_vwd, v_vws, v_ok1, v_ownD, v_dctD, v_dk1, v_setOwn, v_putM, v_op2, v_op1, v_anil, v_acons, v_vws0, v_vwsC, v_cb, v_tupD, v_lstD, v_lstW, v_listW, v_dds0, v_ddsC, v_asB, v_tb1, v_andT, v_orT, v_notT, v_andV, v_orV, v_notV, v_ofB, v_ifE, v_pl, v_toW, v_fz, v_ofWd, v_ofWo, v_nxt, v_thenS, v_exprS, v_retS, v_retN, v_ifS, v_setS, v_parS, v_setIx, v_asD, v_asI, v_mthE, v_callA, v_callB, v_forS, v_argI, v_seqI, v_slD, v_poN, v_poS, v_isiE, v_isiE2, v_isNE, v_dnew, v_dinT, v_dputS, v_sortDct, v_rgE, v_rg2, v_unS, v_catW, v_chainE, v_add, v_sub, v_lt, v_le, v_gt, v_ge, v_eqI, v_eqB, v_eqS, v_ixL, v_ixT, v_lenL, v_lenT, v_abs, v_intI, v_intB, v_min, v_max, v_chk, e, hb]
theorem and_ff (e : Gv f env (.bool false)) : Gv (andV f g) env (.bool false) := by
  unfold Gv at *
  simp [v_bind, v_ok, v_none, v_pure, v_lift, v_liftN, v_con, v_get, v_gkd, v_gko, v_gkc, v_vwd, v_vws, v_ok1, v_ownD, v_dctD, v_dk1, v_setOwn, v_putM, v_op2, v_op1, v_anil, v_acons, v_vws0, v_vwsC, v_cb, v_tupD, v_lstD, v_lstW, v_listW, v_dds0, v_ddsC, v_asB, v_tb1, v_andT, v_orT, v_notT, v_andV, v_orV, v_notV, v_ofB, v_ifE, v_pl, v_toW, v_fz, v_ofWd, v_ofWo, v_nxt, v_thenS, v_exprS, v_retS, v_retN, v_ifS, v_setS, v_parS, v_setIx, v_asD, v_asI, v_mthE, v_callA, v_callB, v_forS, v_argI, v_seqI, v_slD, v_poN, v_poS, v_isiE, v_isiE2, v_isNE, v_dnew, v_dinT, v_dputS, v_sortDct, v_rgE, v_rg2, v_unS, v_catW, v_chainE, v_add, v_sub, v_lt, v_le, v_gt, v_ge, v_eqI, v_eqB, v_eqS, v_ixL, v_ixT, v_lenL, v_lenT, v_abs, v_intI, v_intB, v_min, v_max, v_chk, e]
theorem and_tr (e : Gv f env (.bool true)) (e2 : Gv g env (.bool x)) : Gv (andV f g) env (.bool x) := by
  unfold Gv at *
  simp [v_bind, v_ok, v_none, v_pure, v_lift, v_liftN, v_con, v_get, v_gkd, v_gko, v_gkc, v_vwd, v_vws, v_ok1, v_ownD, v_dctD, v_dk1, v_setOwn, v_putM, v_op2, v_op1, v_anil, v_acons, v_vws0, v_vwsC, v_cb, v_tupD, v_lstD, v_lstW, v_listW, v_dds0, v_ddsC, v_asB, v_tb1, v_andT, v_orT, v_notT, v_andV, v_orV, v_notV, v_ofB, v_ifE, v_pl, v_toW, v_fz, v_ofWd, v_ofWo, v_nxt, v_thenS, v_exprS, v_retS, v_retN, v_ifS, v_setS, v_parS, v_setIx, v_asD, v_asI, v_mthE, v_callA, v_callB, v_forS, v_argI, v_seqI, v_slD, v_poN, v_poS, v_isiE, v_isiE2, v_isNE, v_dnew, v_dinT, v_dputS, v_sortDct, v_rgE, v_rg2, v_unS, v_catW, v_chainE, v_add, v_sub, v_lt, v_le, v_gt, v_ge, v_eqI, v_eqB, v_eqS, v_ixL, v_ixT, v_lenL, v_lenT, v_abs, v_intI, v_intB, v_min, v_max, v_chk, e, e2]
theorem or_tr (e : Gv f env (.bool true)) : Gv (orV f g) env (.bool true) := by
  unfold Gv at *
  simp [v_bind, v_ok, v_none, v_pure, v_lift, v_liftN, v_con, v_get, v_gkd, v_gko, v_gkc, v_vwd, v_vws, v_ok1, v_ownD, v_dctD, v_dk1, v_setOwn, v_putM, v_op2, v_op1, v_anil, v_acons, v_vws0, v_vwsC, v_cb, v_tupD, v_lstD, v_lstW, v_listW, v_dds0, v_ddsC, v_asB, v_tb1, v_andT, v_orT, v_notT, v_andV, v_orV, v_notV, v_ofB, v_ifE, v_pl, v_toW, v_fz, v_ofWd, v_ofWo, v_nxt, v_thenS, v_exprS, v_retS, v_retN, v_ifS, v_setS, v_parS, v_setIx, v_asD, v_asI, v_mthE, v_callA, v_callB, v_forS, v_argI, v_seqI, v_slD, v_poN, v_poS, v_isiE, v_isiE2, v_isNE, v_dnew, v_dinT, v_dputS, v_sortDct, v_rgE, v_rg2, v_unS, v_catW, v_chainE, v_add, v_sub, v_lt, v_le, v_gt, v_ge, v_eqI, v_eqB, v_eqS, v_ixL, v_ixT, v_lenL, v_lenT, v_abs, v_intI, v_intB, v_min, v_max, v_chk, e]
theorem or_ff (e : Gv f env (.bool false)) (e2 : Gv g env (.bool x)) : Gv (orV f g) env (.bool x) := by
  unfold Gv at *
  simp [v_bind, v_ok, v_none, v_pure, v_lift, v_liftN, v_con, v_get, v_gkd, v_gko, v_gkc, v_vwd, v_vws, v_ok1, v_ownD, v_dctD, v_dk1, v_setOwn, v_putM, v_op2, v_op1, v_anil, v_acons, v_vws0, v_vwsC, v_cb, v_tupD, v_lstD, v_lstW, v_listW, v_dds0, v_ddsC, v_asB, v_tb1, v_andT, v_orT, v_notT, v_andV, v_orV, v_notV, v_ofB, v_ifE, v_pl, v_toW, v_fz, v_ofWd, v_ofWo, v_nxt, v_thenS, v_exprS, v_retS, v_retN, v_ifS, v_setS, v_parS, v_setIx, v_asD, v_asI, v_mthE, v_callA, v_callB, v_forS, v_argI, v_seqI, v_slD, v_poN, v_poS, v_isiE, v_isiE2, v_isNE, v_dnew, v_dinT, v_dputS, v_sortDct, v_rgE, v_rg2, v_unS, v_catW, v_chainE, v_add, v_sub, v_lt, v_le, v_gt, v_ge, v_eqI, v_eqB, v_eqS, v_ixL, v_ixT, v_lenL, v_lenT, v_abs, v_intI, v_intB, v_min, v_max, v_chk, e, e2]
theorem chain_ok {p q r : Int} (h1 : Gv f env (.int p)) (h2 : Gv g env (.int q)) (h3 : Gv h env (.int r)) : Gv (chainE leD leD f g h) env (.bool (decide (p ≤ q) && decide (q ≤ r))) := by
  unfold Gv at *
  by_cases z : p ≤ q <;> simp [v_bind, v_ok, v_none, v_pure, v_lift, v_liftN, v_con, v_get, v_gkd, v_gko, v_gkc, v_vwd, v_vws, v_ok1, v_ownD, v_dctD, v_dk1, v_setOwn, v_putM, v_op2, v_op1, v_anil, v_acons, v_vws0, v_vwsC, v_cb, v_tupD, v_lstD, v_lstW, v_listW, v_dds0, v_ddsC, v_asB, v_tb1, v_andT, v_orT, v_notT, v_andV, v_orV, v_notV, v_ofB, v_ifE, v_pl, v_toW, v_fz, v_ofWd, v_ofWo, v_nxt, v_thenS, v_exprS, v_retS, v_retN, v_ifS, v_setS, v_parS, v_setIx, v_asD, v_asI, v_mthE, v_callA, v_callB, v_forS, v_argI, v_seqI, v_slD, v_poN, v_poS, v_isiE, v_isiE2, v_isNE, v_dnew, v_dinT, v_dputS, v_sortDct, v_rgE, v_rg2, v_unS, v_catW, v_chainE, v_add, v_sub, v_lt, v_le, v_gt, v_ge, v_eqI, v_eqB, v_eqS, v_ixL, v_ixT, v_lenL, v_lenT, v_abs, v_intI, v_intB, v_min, v_max, v_chk, h1, h2, h3, z]
/-! tests -/
def Tv (t : M Bool) (env : En) (x : Bool) : Prop := t env = some (.ok x env)
theorem tb_ok (e : Gv f env (.bool x)) : Tv (tb1 f) env x := by
  unfold Gv Tv at *
  simp [v_bind, v_ok, v_none, v_pure, v_lift, v_liftN, v_con, v_get, v_gkd, v_gko, v_gkc, v_vwd, v_vws, v_ok1, v_ownD, v_dctD, v_dk1, v_setOwn, v_putM, v_op2, v_op1, v_anil, v_acons, v_vws0, v_vwsC, v_cb, v_tupD, v_lstD, v_lstW, v_listW, v_dds0, v_ddsC, v_asB, v_tb1, v_andT, v_orT, v_notT, v_andV, v_orV, v_notV, v_ofB, v_ifE, v_pl, v_toW, v_fz, v_ofWd, v_ofWo, v_nxt, v_thenS, v_exprS, v_retS, v_retN, v_ifS, v_setS, v_parS, v_setIx, v_asD, v_asI, v_mthE, v_callA, v_callB, v_forS, v_argI, v_seqI, v_slD, v_poN, v_poS, v_isiE, v_isiE2, v_isNE, v_dnew, v_dinT, v_dputS, v_sortDct, v_rgE, v_rg2, v_unS, v_catW, v_chainE, v_add, v_sub, v_lt, v_le, v_gt, v_ge, v_eqI, v_eqB, v_eqS, v_ixL, v_ixT, v_lenL, v_lenT, v_abs, v_intI, v_intB, v_min, v_max, v_chk, e]
theorem not_ok (e : Tv t env x) : Tv (notT t) env (!x) := by
  unfold Tv at *
  simp [v_bind, v_ok, v_none, v_pure, v_lift, v_liftN, v_con, v_get, v_gkd, v_gko, v_gkc, v_vwd, v_vws, v_ok1, v_ownD, v_dctD, v_dk1, v_setOwn, v_putM, v_op2, v_op1, v_anil, v_acons, v_vws0, v_vwsC, v_cb, v_tupD, v_lstD, v_lstW, v_listW, v_dds0, v_ddsC, v_asB, v_tb1, v_andT, v_orT, v_notT, v_andV, v_orV, v_notV, v_ofB, v_ifE, v_pl, v_toW, v_fz, v_ofWd, v_ofWo, v_nxt, v_thenS, v_exprS, v_retS, v_retN, v_ifS, v_setS, v_parS, v_setIx, v_asD, v_asI, v_mthE, v_callA, v_callB, v_forS, v_argI, v_seqI, v_slD, v_poN, v_poS, v_isiE, v_isiE2, v_isNE, v_dnew, v_dinT, v_dputS, v_sortDct, v_rgE, v_rg2, v_unS, v_catW, v_chainE, v_add, v_sub, v_lt, v_le, v_gt, v_ge, v_eqI, v_eqB, v_eqS, v_ixL, v_ixT, v_lenL, v_lenT, v_abs, v_intI, v_intB, v_min, v_max, v_chk, e]
theorem orT_ff (e : Tv t env false) (e2 : Tv u env x) : Tv (orT t u) env x := by
  unfold Tv at *
  simp [v_bind, v_ok, v_none, v_pure, v_lift, v_liftN, v_con, v_get, v_gkd, v_gko, v_gkc, v_vwd, v_vws, v_ok1, v_ownD, v_dctD, v_dk1, v_setOwn, v_putM, v_op2, v_op1, v_anil, v_acons, v_vws0, v_vwsC, v_cb, v_tupD, v_lstD, v_lstW, v_listW, v_dds0, v_ddsC, v_asB, v_tb1, v_andT, v_orT, v_notT, v_andV, v_orV, v_notV, v_ofB, v_ifE, v_pl, v_toW, v_fz, v_ofWd, v_ofWo, v_nxt, v_thenS, v_exprS, v_retS, v_retN, v_ifS, v_setS, v_parS, v_setIx, v_asD, v_asI, v_mthE, v_callA, v_callB, v_forS, v_argI, v_seqI, v_slD, v_poN, v_poS, v_isiE, v_isiE2, v_isNE, v_dnew, v_dinT, v_dputS, v_sortDct, v_rgE, v_rg2, v_unS, v_catW, v_chainE, v_add, v_sub, v_lt, v_le, v_gt, v_ge, v_eqI, v_eqB, v_eqS, v_ixL, v_ixT, v_lenL, v_lenT, v_abs, v_intI, v_intB, v_min, v_max, v_chk, e, e2]
theorem orT_tr (e : Tv t env true) : Tv (orT t u) env true := by
  unfold Tv at *
  simp [v_bind, v_ok, v_none, v_pure, v_lift, v_liftN, v_con, v_get, v_gkd, v_gko, v_gkc, v_vwd, v_vws, v_ok1, v_ownD, v_dctD, v_dk1, v_setOwn, v_putM, v_op2, v_op1, v_anil, v_acons, v_vws0, v_vwsC, v_cb, v_tupD, v_lstD, v_lstW, v_listW, v_dds0, v_ddsC, v_asB, v_tb1, v_andT, v_orT, v_notT, v_andV, v_orV, v_notV, v_ofB, v_ifE, v_pl, v_toW, v_fz, v_ofWd, v_ofWo, v_nxt, v_thenS, v_exprS, v_retS, v_retN, v_ifS, v_setS, v_parS, v_setIx, v_asD, v_asI, v_mthE, v_callA, v_callB, v_forS, v_argI, v_seqI, v_slD, v_poN, v_poS, v_isiE, v_isiE2, v_isNE, v_dnew, v_dinT, v_dputS, v_sortDct, v_rgE, v_rg2, v_unS, v_catW, v_chainE, v_add, v_sub, v_lt, v_le, v_gt, v_ge, v_eqI, v_eqB, v_eqS, v_ixL, v_ixT, v_lenL, v_lenT, v_abs, v_intI, v_intB, v_min, v_max, v_chk, e]
/-! statements -/
theorem if_no (e : Tv t env false) : ifS t s s2 env = s2 env := by
  unfold Tv at *
  simp [v_bind, v_ok, v_none, v_pure, v_lift, v_liftN, v_con, v_get, v_gkd, v_gko, v_gkc, v_vwd, v_vws, v_ok1, v_ownD, v_dctD, v_dk1, v_setOwn, v_putM, v_op2, v_op1, v_anil, v_acons, v_vws0, v_vwsC, v_cb, v_tupD, v_lstD, v_lstW, v_listW, v_dds0, v_ddsC, v_asB, v_tb1, v_andT, v_orT, v_notT, v_andV, v_orV, v_notV, v_ofB, v_ifE, v_pl, v_toW, v_fz, v_ofWd, v_ofWo, v_nxt, v_thenS, v_exprS, v_retS, v_retN, v_ifS, v_setS, v_parS, v_setIx, v_asD, v_asI, v_mthE, v_callA, v_callB, v_forS, v_argI, v_seqI, v_slD, v_poN, v_poS, v_isiE, v_isiE2, v_isNE, v_dnew, v_dinT, v_dputS, v_sortDct, v_rgE, v_rg2, v_unS, v_catW, v_chainE, v_add, v_sub, v_lt, v_le, v_gt, v_ge, v_eqI, v_eqB, v_eqS, v_ixL, v_ixT, v_lenL, v_lenT, v_abs, v_intI, v_intB, v_min, v_max, v_chk, e]
theorem if_yes (e : Tv t env true) : ifS t s s2 env = s env := by
  unfold Tv at *
  simp [v_bind, v_ok, v_none, v_pure, v_lift, v_liftN, v_con, v_get, v_gkd, v_gko, v_gkc, v_vwd, v_vws, v_ok1, v_ownD, v_dctD, v_dk1, v_setOwn, v_putM, v_op2, v_op1, v_anil, v_acons, v_vws0, v_vwsC, v_cb, v_tupD, v_lstD, v_lstW, v_listW, v_dds0, v_ddsC, v_asB, v_tb1, v_andT, v_orT, v_notT, v_andV, v_orV, v_notV, v_ofB, v_ifE, v_pl, v_toW, v_fz, v_ofWd, v_ofWo, v_nxt, v_thenS, v_exprS, v_retS, v_retN, v_ifS, v_setS, v_parS, v_setIx, v_asD, v_asI, v_mthE, v_callA, v_callB, v_forS, v_argI, v_seqI, v_slD, v_poN, v_poS, v_isiE, v_isiE2, v_isNE, v_dnew, v_dinT, v_dputS, v_sortDct, v_rgE, v_rg2, v_unS, v_catW, v_chainE, v_add, v_sub, v_lt, v_le, v_gt, v_ge, v_eqI, v_eqB, v_eqS, v_ixL, v_ixT, v_lenL, v_lenT, v_abs, v_intI, v_intB, v_min, v_max, v_chk, e]
theorem if_nx (e : Tv t env false) : ifS t s nxt env = some (.ok .nx env) := (if_no e).trans rfl
theorem ret_ok (e : Gv f env d) : retS (pl f) env = some (.ok (.rt (.dat d)) env) := by
  unfold Gv at *
  simp [v_bind, v_ok, v_none, v_pure, v_lift, v_liftN, v_con, v_get, v_gkd, v_gko, v_gkc, v_vwd, v_vws, v_ok1, v_ownD, v_dctD, v_dk1, v_setOwn, v_putM, v_op2, v_op1, v_anil, v_acons, v_vws0, v_vwsC, v_cb, v_tupD, v_lstD, v_lstW, v_listW, v_dds0, v_ddsC, v_asB, v_tb1, v_andT, v_orT, v_notT, v_andV, v_orV, v_notV, v_ofB, v_ifE, v_pl, v_toW, v_fz, v_ofWd, v_ofWo, v_nxt, v_thenS, v_exprS, v_retS, v_retN, v_ifS, v_setS, v_parS, v_setIx, v_asD, v_asI, v_mthE, v_callA, v_callB, v_forS, v_argI, v_seqI, v_slD, v_poN, v_poS, v_isiE, v_isiE2, v_isNE, v_dnew, v_dinT, v_dputS, v_sortDct, v_rgE, v_rg2, v_unS, v_catW, v_chainE, v_add, v_sub, v_lt, v_le, v_gt, v_ge, v_eqI, v_eqB, v_eqS, v_ixL, v_ixT, v_lenL, v_lenT, v_abs, v_intI, v_intB, v_min, v_max, v_chk, e]
theorem expr_ok (e : Gv f env d) : exprS f env = some (.ok .nx env) := by
  unfold Gv at *
  simp [v_bind, v_ok, v_none, v_pure, v_lift, v_liftN, v_con, v_get, v_gkd, v_gko, v_gkc, v_vwd, v_vws, v_ok1, v_ownD, v_dctD, v_dk1, v_setOwn, v_putM, v_op2, v_op1, v_anil, v_acons, v_vws0, v_vwsC, v_cb, v_tupD, v_lstD, v_lstW, v_listW, v_dds0, v_ddsC, v_asB, v_tb1, v_andT, v_orT, v_notT, v_andV, v_orV, v_notV, v_ofB, v_ifE, v_pl, v_toW, v_fz, v_ofWd, v_ofWo, v_nxt, v_thenS, v_exprS, v_retS, v_retN, v_ifS, v_setS, v_parS, v_setIx, v_asD, v_asI, v_mthE, v_callA, v_callB, v_forS, v_argI, v_seqI, v_slD, v_poN, v_poS, v_isiE, v_isiE2, v_isNE, v_dnew, v_dinT, v_dputS, v_sortDct, v_rgE, v_rg2, v_unS, v_catW, v_chainE, v_add, v_sub, v_lt, v_le, v_gt, v_ge, v_eqI, v_eqB, v_eqS, v_ixL, v_ixT, v_lenL, v_lenT, v_abs, v_intI, v_intB, v_min, v_max, v_chk, e]
theorem set_ok (e : Gv f env d) (hi : i < env.length) : setS i (pl f) env = some (.ok .nx (env.set i (some (.dat d)))) := by
  unfold Gv at *
  rw [v_setS, v_pl, e, v_ok, v_toW, v_lift, v_ok, v_bind, v_putM _ _ hi, v_ok, v_pure]
theorem un_ok {p : PyData → En → Option En} {e3 : En} (e : Gv f env d) (hp : p d env = some e3) : unS p f env = some (.ok .nx e3) := by
  unfold Gv at e
  rw [v_unS, e, v_ok]
  show cont ((p d env).map fun e => Rs.ok () e) _ = _
  rw [hp]
  rfl
theorem seq_ok {ds : List PyData} (e : Gv f env d) (hs : seqD d = some ds) : seqI f env = some (.ok ds env) := by
  unfold Gv at e
  simp [v_bind, v_ok, v_none, v_pure, v_lift, v_liftN, v_con, v_get, v_gkd, v_gko, v_gkc, v_vwd, v_vws, v_ok1, v_ownD, v_dctD, v_dk1, v_setOwn, v_putM, v_op2, v_op1, v_anil, v_acons, v_vws0, v_vwsC, v_cb, v_tupD, v_lstD, v_lstW, v_listW, v_dds0, v_ddsC, v_asB, v_tb1, v_andT, v_orT, v_notT, v_andV, v_orV, v_notV, v_ofB, v_ifE, v_pl, v_toW, v_fz, v_ofWd, v_ofWo, v_nxt, v_thenS, v_exprS, v_retS, v_retN, v_ifS, v_setS, v_parS, v_setIx, v_asD, v_asI, v_mthE, v_callA, v_callB, v_forS, v_argI, v_seqI, v_slD, v_poN, v_poS, v_isiE, v_isiE2, v_isNE, v_dnew, v_dinT, v_dputS, v_sortDct, v_rgE, v_rg2, v_unS, v_catW, v_chainE, v_add, v_sub, v_lt, v_le, v_gt, v_ge, v_eqI, v_eqB, v_eqS, v_ixL, v_ixT, v_lenL, v_lenT, v_abs, v_intI, v_intB, v_min, v_max, v_chk, e, hs]
theorem it1_ok {fo : List PyData → Option (List PyData)} {ds : List PyData} (h1 : Gv f env a) (e : fo [a] = some ds) : argI fo (acons f anil) env = some (.ok ds env) := by
  unfold Gv at *
  simp [v_bind, v_ok, v_none, v_pure, v_lift, v_liftN, v_con, v_get, v_gkd, v_gko, v_gkc, v_vwd, v_vws, v_ok1, v_ownD, v_dctD, v_dk1, v_setOwn, v_putM, v_op2, v_op1, v_anil, v_acons, v_vws0, v_vwsC, v_cb, v_tupD, v_lstD, v_lstW, v_listW, v_dds0, v_ddsC, v_asB, v_tb1, v_andT, v_orT, v_notT, v_andV, v_orV, v_notV, v_ofB, v_ifE, v_pl, v_toW, v_fz, v_ofWd, v_ofWo, v_nxt, v_thenS, v_exprS, v_retS, v_retN, v_ifS, v_setS, v_parS, v_setIx, v_asD, v_asI, v_mthE, v_callA, v_callB, v_forS, v_argI, v_seqI, v_slD, v_poN, v_poS, v_isiE, v_isiE2, v_isNE, v_dnew, v_dinT, v_dputS, v_sortDct, v_rgE, v_rg2, v_unS, v_catW, v_chainE, v_add, v_sub, v_lt, v_le, v_gt, v_ge, v_eqI, v_eqB, v_eqS, v_ixL, v_ixT, v_lenL, v_lenT, v_abs, v_intI, v_intB, v_min, v_max, v_chk, h1, e]
theorem it2_ok {fo : List PyData → Option (List PyData)} {ds : List PyData} (h1 : Gv f env a) (h2 : Gv g env b) (e : fo [a, b] = some ds) : argI fo (acons f (acons g anil)) env = some (.ok ds env) := by
  unfold Gv at *
  simp [v_bind, v_ok, v_none, v_pure, v_lift, v_liftN, v_con, v_get, v_gkd, v_gko, v_gkc, v_vwd, v_vws, v_ok1, v_ownD, v_dctD, v_dk1, v_setOwn, v_putM, v_op2, v_op1, v_anil, v_acons, v_vws0, v_vwsC, v_cb, v_tupD, v_lstD, v_lstW, v_listW, v_dds0, v_ddsC, v_asB, v_tb1, v_andT, v_orT, v_notT, v_andV, v_orV, v_notV, v_ofB, v_ifE, v_pl, v_toW, v_fz, v_ofWd, v_ofWo, v_nxt, v_thenS, v_exprS, v_retS, v_retN, v_ifS, v_setS, v_parS, v_setIx, v_asD, v_asI, v_mthE, v_callA, v_callB, v_forS, v_argI, v_seqI, v_slD, v_poN, v_poS, v_isiE, v_isiE2, v_isNE, v_dnew, v_dinT, v_dputS, v_sortDct, v_rgE, v_rg2, v_unS, v_catW, v_chainE, v_add, v_sub, v_lt, v_le, v_gt, v_ge, v_eqI, v_eqB, v_eqS, v_ixL, v_ixT, v_lenL, v_lenT, v_abs, v_intI, v_intB, v_min, v_max, v_chk, h1, h2, e]
theorem it3_ok {fo : List PyData → Option (List PyData)} {ds : List PyData} (h1 : Gv f env a) (h2 : Gv g env b) (h3 : Gv h env c) (e : fo [a, b, c] = some ds) : argI fo (acons f (acons g (acons h anil))) env = some (.ok ds env) := by
  unfold Gv at *
  simp [v_bind, v_ok, v_none, v_pure, v_lift, v_liftN, v_con, v_get, v_gkd, v_gko, v_gkc, v_vwd, v_vws, v_ok1, v_ownD, v_dctD, v_dk1, v_setOwn, v_putM, v_op2, v_op1, v_anil, v_acons, v_vws0, v_vwsC, v_cb, v_tupD, v_lstD, v_lstW, v_listW, v_dds0, v_ddsC, v_asB, v_tb1, v_andT, v_orT, v_notT, v_andV, v_orV, v_notV, v_ofB, v_ifE, v_pl, v_toW, v_fz, v_ofWd, v_ofWo, v_nxt, v_thenS, v_exprS, v_retS, v_retN, v_ifS, v_setS, v_parS, v_setIx, v_asD, v_asI, v_mthE, v_callA, v_callB, v_forS, v_argI, v_seqI, v_slD, v_poN, v_poS, v_isiE, v_isiE2, v_isNE, v_dnew, v_dinT, v_dputS, v_sortDct, v_rgE, v_rg2, v_unS, v_catW, v_chainE, v_add, v_sub, v_lt, v_le, v_gt, v_ge, v_eqI, v_eqB, v_eqS, v_ixL, v_ixT, v_lenL, v_lenT, v_abs, v_intI, v_intB, v_min, v_max, v_chk, h1, h2, h3, e]
theorem for_ok {e : En} {fi : M (List PyData)} {p : PyData → En → Option En} {l : List PyData} {r : Option (Rs Fl)} (e1 : fi env = some (.ok l e)) (h2 : forM p s l e = r) : forS fi p s env = r := by
  rw [v_forS, e1, v_ok]
  exact h2
theorem aug_ok {fo : PyData → PyData → Option PyData} {p q : Int} (e : env[i]? = some (some (.dat (.int p)))) (h1 : Gv f env (.int q)) (h2 : fo (.int p) (.int q) = some d) (hi : i < env.length) : augS i fo f env = some (.ok .nx (env.set i (some (.dat d)))) := by
  have g1 := get_ok e
  unfold Gv at g1 h1
  show cont (get i env) _ = _
  rw [g1, v_ok, v_bind, v_asI, v_lift, v_ok, v_bind, h1, v_ok, v_bind, v_asI, v_lift, v_ok, v_bind, h2, v_lift, v_ok, v_bind, v_putM _ _ hi, v_ok, v_pure]
theorem callB_ok {FB : List PyData → List PyData → Option (Wv × List PyData)} {bs bs' : List PyData} {e : En} (eb : env = some (.own (dats bs)) :: e) (h1 : Gv f env a) (e1 : FB bs [a] = some (.dat c, bs')) : fz (callB 0 FB (acons f anil)) env = some (.ok (.dat c) (some (.own (dats bs')) :: e)) := by
  unfold Gv at h1
  subst eb
  simp [v_bind, v_ok, v_none, v_pure, v_lift, v_liftN, v_con, v_get, v_gkd, v_gko, v_gkc, v_vwd, v_vws, v_ok1, v_ownD, v_dctD, v_dk1, v_setOwn, v_putM, v_op2, v_op1, v_anil, v_acons, v_vws0, v_vwsC, v_cb, v_tupD, v_lstD, v_lstW, v_listW, v_dds0, v_ddsC, v_asB, v_tb1, v_andT, v_orT, v_notT, v_andV, v_orV, v_notV, v_ofB, v_ifE, v_pl, v_toW, v_fz, v_ofWd, v_ofWo, v_nxt, v_thenS, v_exprS, v_retS, v_retN, v_ifS, v_setS, v_parS, v_setIx, v_asD, v_asI, v_mthE, v_callA, v_callB, v_forS, v_argI, v_seqI, v_slD, v_poN, v_poS, v_isiE, v_isiE2, v_isNE, v_dnew, v_dinT, v_dputS, v_sortDct, v_rgE, v_rg2, v_unS, v_catW, v_chainE, v_add, v_sub, v_lt, v_le, v_gt, v_ge, v_eqI, v_eqB, v_eqS, v_ixL, v_ixT, v_lenL, v_lenT, v_abs, v_intI, v_intB, v_min, v_max, v_chk, h1, e1]
end
end Ov

set_option Elab.async false
set_option linter.all false
set_option maxRecDepth 100000
set_option maxHeartbeats 4000000
namespace Ov
open PySem L2
/-! errors: raised, handed on, caught and kept -/
section
variable {K : PySem.W.Frag} {E : XK} {bx : Bool}
def raiseS (C : Addr) (f : Str) (fa : M (List R)) : M Fl := M.bind fa fun rs => M.bind (lift (dds rs)) fun ds => fun _ => match ds with
  | [d] => some (.ex C f d)
  | _ => none
theorem exn_put {B : Addr → Prop} {σ : St} {H H1 H' : Hp} {env : En} {l : List Addr} {C dx : Addr} {f : Str} {v : V} {d : PyData} (post : Exn K E B H l C f d) (r1 : Rep K B σ H1 env l) (f1 : Fr l H H1) (da : Da K (off (un B l) H1) v d) (s : Same H1 H') (nd : H1 dx = none) (hd : H' dx = some (.xd [(f, v)])) : E (.ref C) (some dx) H' := by
  refine post dx H' v (f1.trans (Fr.of s)) (fun z => r1.fresh nd (.inl z)) hd (Da.same (off_mono (fun b z n => absurd (.inl z) n) fun b o n e => s b o e) d da)
theorem OkS.raise1 {C : Addr} {k : Nat} {f : Str} {t : TA} {fa : M (List R)} (cl : Cl K C k) (no : PySem.W.findIn K (.ref C) f = some none) (o : OkA K E t fa) : OkS K E bx (fun _ σ H => tRz C (spIni K C (tl k) (nw k) f) t σ H fun cls d H' => E cls d H') (raiseS C f fa) := by
  refine ⟨?_⟩
  intro B σ H env l rs rp h D post
  refine o.seq rp h post.exn fun a e vs H1 h1 r1 f1 q1 => ?_
  obtain ⟨ds, h2, h3⟩ := lift_step h1
  have da := dds_ok q1 h2
  match ds, h3, da with
  | [d], h3, da =>
    cases h3
    obtain ⟨v, rfl, dv⟩ := daAll1 da
    exact ⟨v, rfl, fun a na => rz_plain cl no (fun dx H' s nd hd => exn_put post r1 f1 dv s nd hd) a na⟩
  | [], h3, _ => cases h3
  | _ :: _ :: _, h3, _ => cases h3
/-- a def that gives a value or an error -/
abbrev Xo := Sum Wv (Addr × Str × PyData)
def spX (K : PySem.W.Frag) (F : List PyData → Option Xo) : Sp := fun vs H Q E => ∃ B ds o, DaAll K (off B H) vs ds ∧ (∀ b, B b → ∃ o, H b = some o ∧ NT o) ∧ F ds = some o ∧
  (∀ w, o = .inl w → ∀ v H' lw, Same H H' → RpW K H' (off (un B lw) H') v w lw → lw.Nodup → (∀ b ∈ lw, H b = none) → Q v H') ∧
  ∀ C f d, o = .inr (C, f, d) → ∀ dx H' v, Same H H' → ¬ B dx → H' dx = some (.xd [(f, v)]) → Da K (off B H') v d → E (.ref C) (some dx) H'
def runX (np n : Nat) (fb : M Fl) (ds : List PyData) : Option Xo := if ds.length = np then
  match fb (env0 ds (n - ds.length)) with
  | some (.ok .nx _) => some (.inl (.dat .none))
  | some (.ok (.rt w) _) => some (.inl w)
  | some (.ex C f d) => some (.inr (C, f, d))
  | _ => none else none
theorem lenX {K : PySem.W.Frag} {np n : Nat} {fb : M Fl} {vs : List V} {H : Hp} {Q : VK} {E : XK} (h : spX K (runX np n fb) vs H Q E) : vs.length = np := by
  obtain ⟨B, ds, o, da, _, hf, _⟩ := h
  unfold runX at hf
  split at hf
  · rw [daAll_len da]; assumption
  · cases hf
theorem finX {H : Hp} {t : TS} {fb : M Fl} {N : List Str} {vs : List V} {Q : VK} {np : Nat} (o : OkS K E false t fb) (h : spX K (runX np N.length fb) vs H Q E) : t { nx := fun _ H' => Q .non H', rt := Q } (L2.start N vs) H := by
  obtain ⟨B, ds, w, da, hB, hf, q, qx⟩ := h
  have el := daAll_len da
  have rp : Rep K B (L2.start N vs) H (env0 ds (N.length - ds.length)) [] := by
    refine ⟨?_, List.nodup_nil, fun _ z => (by cases z), hB⟩
    rw [un_nil]
    unfold L2.start
    rw [el]
    exact rpe_args _ da
  unfold runX at hf
  split at hf
  case isFalse => cases hf
  cases hz : fb (env0 ds (N.length - ds.length)) with
  | none => rw [hz] at hf; cases hf
  | some z =>
    rw [hz] at hf
    cases z with
    | ex C f d =>
      cases hf
      exact o.run rp hz fun dx H' v f' nB hd dv => qx C f d rfl dx H' v (fun b o e => f' b o (fun z => by cases z) e) nB hd dv
    | ok fl e =>
      cases fl with
      | bk => cases hf
      | ct => cases hf
      | nx =>
        cases hf
        refine o.run rp hz fun σ' H' l' r' f' _ => q _ rfl .non H' [] (fun b o e => f'.fr b o (fun z => by cases z) e) ⟨rfl, .non⟩ List.nodup_nil fun _ z => by cases z
      | rt w' =>
        cases hf
        refine o.run rp hz fun v σ' H' l' lw r' f' _ rw' nd hl => q _ rfl v H' lw (fun b o e => f'.fr b o (fun z => by cases z) e) ?_ nd fun b z => ?_
        · exact rw'.mv (off_mono (fun b z n => absurd (.inl z) n) fun b o n e => e) fun _ _ => rfl
        · exact (f'.sub b (List.mem_append_right _ z)).resolve_left fun z => by cases z
/-- a call of such a def -/
def callX (F : List PyData → Option Xo) (fa : M (List R)) : M Wv := M.bind fa fun rs => M.bind (lift (dds rs)) fun ds => fun env => match F ds with
  | some (.inl w) => some (.ok w env)
  | some (.inr (C, f, d)) => some (.ex C f d)
  | none => none
theorem callX_ok {B : Addr → Prop} {σ : St} {H H1 : Hp} {e : En} {l : List Addr} {vs : List V} {ds : List PyData} {F : List PyData → Option Xo} {rs : Rs Wv} {Q : VK} (r1 : Rep K B σ H1 e l) (f1 : Fr l H H1) (da : DaAll K (off (un B l) H1) vs ds)
    (hw : (match F ds with | some (.inl w) => some (Rs.ok w e) | some (.inr (C, f, d)) => some (.ex C f d) | none => none) = some rs) (post : PostW K E B σ H l rs Q) : spX K F vs H1 Q E := by
  cases hF : F ds with
  | none => rw [hF] at hw; cases hw
  | some o =>
    rw [hF] at hw
    refine ⟨un B l, ds, o, da, r1.tl, hF, fun w ew => ?_, fun C f d ew => ?_⟩
    · subst ew
      cases hw
      intro v H' lw s rw' nd fr
      have hl : ∀ b ∈ lw, ¬ un B l b := fun b z => r1.fresh (fr b z)
      refine post v H' lw (r1.grow s (fun _ z => .inl z) (fun b z => z.imp id (fr b)) fun b z => ?_) (f1.trans (Fr.of s)) (rw'.mv (off_mono (fun b z n => absurd (z.elim (fun z => z.elim (fun z => .inl (.inl z)) .inr) fun z => .inl (.inr z)) n) fun b o n e => e) fun _ _ => rfl) nd fun b z => ?_
      · rcases z with z | z
        · obtain ⟨o, e, n⟩ := r1.tb b z
          exact ⟨o, s _ _ e, n⟩
        · exact rw'.trk b z
      · cases q : H b with
        | none => rfl
        | some o =>
          have := f1 b o (fun y => hl b z (.inr y)) q
          rw [fr b z] at this
          cases this
    · subst ew
      cases hw
      intro dx H' v s nB hd dv
      exact post dx H' v (f1.trans (Fr.of s)) (fun z => nB (.inl z)) hd (Da.same (off_mono (fun b z n => absurd (.inl z) n) fun b o n e => e) d dv)
theorem OkW.callX {F : List PyData → Option Xo} {t : TA} {fa : M (List R)} (oa : OkA K E t fa) : OkW K E (tCall (spX K F) [] E t) (Ov.callX F fa) := by
  refine ⟨?_⟩
  intro B σ H env l rs rp h Q post
  refine oa.seq rp h post.exn fun a e vs H1 h1 r1 f1 q1 => ?_
  obtain ⟨ds, h2, h3⟩ := lift_step h1
  rw [List.append_nil]
  exact callX_ok r1 f1 (dds_ok q1 h2) h3 post
/-- in a suite that is tried: what is wished of an error hangs on the slots -/
theorem OkW.callXS {F : List PyData → Option Xo} {t : TA} {fa : M (List R)} (oa : OkA K E t fa) : OkW K E (fun σ H Q => tCallS (spX K F) (fun _ => E) t σ H Q) (Ov.callX F fa) := by
  refine ⟨?_⟩
  intro B σ H env l rs rp h Q post
  refine oa.seq rp h post.exn fun a e vs H1 h1 r1 f1 q1 => ?_
  obtain ⟨ds, h2, h3⟩ := lift_step h1
  exact callX_ok r1 f1 (dds_ok q1 h2) h3 post
theorem OkW.callXK {F : List PyData → Option Xo} {n : Nat} {gV : List V → List V → List V} {gD : List PyData → List PyData} {t : TA} {fa : M (List R)} (hg : ∀ {G : Hp} {vs : List V} {ds : List PyData}, DaAll K G vs ds → ds.length = n → DaAll K G (gV [] vs) (gD ds)) (oa : OkA K E t fa) :
    OkW K E (fun σ H Q => tCallKS n (spX K F) gV (fun _ => E) t σ H Q) (Ov.callX (fun ds => if ds.length = n then F (gD ds) else none) fa) := by
  refine ⟨?_⟩
  intro B σ H env l rs rp h Q post
  refine oa.seq rp h post.exn fun a e vs H1 h1 r1 f1 q1 => ?_
  obtain ⟨ds, h2, h3⟩ := lift_step h1
  have da := dds_ok q1 h2
  by_cases hn : ds.length = n
  · simp only [hn, if_true] at h3
    exact ⟨by rw [daAll_len da]; exact hn, callX_ok r1 f1 (hg da hn) h3 post⟩
  · simp only [hn, if_false] at h3
    cases h3
/-! try: x = ..; except (A, B, ..) as error: caught = error -/
def noOwn (env : En) : Bool := env.all fun s => !isOwn (some s)
theorem rpe_nil {H G : Hp} : ∀ {σ : St} {env : En} {l : List Addr}, RpE K H G σ env l → noOwn env = true → l = []
  | [], [], l, h, _ => h
  | s :: σ, e :: env, l, ⟨a, b, z, h1, h2⟩, hn => by
    have hn : (!isOwn (some e) && env.all fun s => !isOwn (some s)) = true := by rw [← hn]; rfl
    obtain ⟨n1, n2⟩ := (Bool.and_eq_true _ _).mp hn
    have hb := rpe_nil h2 n2
    subst hb
    have ha : a = [] := by
      cases e with
      | none => exact h1
      | some w =>
        obtain ⟨v, _, h1⟩ := h1
        cases w with
        | dat d => exact h1.1
        | own xs => cases n1
        | exc C f d => exact h1.1
        | dct ks => cases n1
    rw [z, ha]
    rfl
def isEmp : Option (Option Wv) → Bool
  | some none => true
  | _ => false
theorem isEmp_ok {x : Option (Option Wv)} (h : isEmp x = true) : x = some none := by
  cases x with
  | none => cases h
  | some y => cases y with
    | none => rfl
    | some _ => cases h
def keepS (i j m : Nat) (cs : List Addr) (f : M Wv) : M Fl := fun env =>
  match f env with
  | some (.ok w e) => (M.bind (putM i w) fun _ => M.pure Fl.nx) e
  | some (.ex C fl d) => if C ∈ cs ∧ noOwn env = true ∧ m < env.length ∧ j < env.length ∧ j ≠ m ∧ isEmp env[j]? = true then some (.ok .nx (env.set m (some (.exc C fl d)))) else none
  | none => none
/-- as OkW, at given slots -/
structure OkWat (K : PySem.W.Frag) (E : XK) (σ : St) (t : TE) (f : M Wv) : Prop where
  run : ∀ {B : Addr → Prop} {H : Hp} {env : En} {l : List Addr} {rs : Rs Wv}, Rep K B σ H env l → f env = some rs → ∀ {Q : VK}, PostW K E B σ H l rs Q → t σ H Q
theorem OkWat.callS {F : List PyData → Option Xo} {W : WX} {σ : St} {t : TA} {fa : M (List R)} (oa : OkA K (fun cls d H' => W cls d σ H') t fa) : OkWat K (fun cls d H' => W cls d σ H') σ (tCallS (spX K F) (L2.WE W) t) (Ov.callX F fa) := by
  refine ⟨?_⟩
  intro B H env l rs rp h Q post
  refine oa.seq rp h post.exn fun a e vs H1 h1 r1 f1 q1 => ?_
  obtain ⟨ds, h2, h3⟩ := lift_step h1
  exact callX_ok r1 f1 (dds_ok q1 h2) h3 post
theorem OkWat.callK {F : List PyData → Option Xo} {W : WX} {σ : St} {n : Nat} {gV : List V → List V → List V} {gD : List PyData → List PyData} {t : TA} {fa : M (List R)} (hg : ∀ {G : Hp} {vs : List V} {ds : List PyData}, DaAll K G vs ds → ds.length = n → DaAll K G (gV [] vs) (gD ds)) (oa : OkA K (fun cls d H' => W cls d σ H') t fa) :
    OkWat K (fun cls d H' => W cls d σ H') σ (tCallKS n (spX K F) gV (L2.WE W) t) (Ov.callX (fun ds => if ds.length = n then F (gD ds) else none) fa) := by
  refine ⟨?_⟩
  intro B H env l rs rp h Q post
  refine oa.seq rp h post.exn fun a e vs H1 h1 r1 f1 q1 => ?_
  obtain ⟨ds, h2, h3⟩ := lift_step h1
  have da := dds_ok q1 h2
  by_cases hn : ds.length = n
  · simp only [hn, if_true] at h3
    exact ⟨by rw [daAll_len da]; exact hn, callX_ok r1 f1 (hg da hn) h3 post⟩
  · simp only [hn, if_false] at h3
    cases h3
def ifW (t : M Bool) (a b : M Wv) : M Wv := M.bind t fun x => if x = true then a else b
theorem OkS.keep {i j m : Nat} {cs : List Addr} {te : WX → TE} {tt : Value → Value → Bool} {f : M Wv} (o : ∀ (W : WX) (σ : St), OkWat K (fun cls d H' => W cls d σ H') σ (te W) f)
    (hc : ∀ C ∈ cs, ∃ k, Cl K C k) (hx : ∀ C ∈ cs, ∀ c ∈ cs.map Value.ref, PySem.W.exmOne K (.ref C) c = some (tt (.ref C) c)) (ht : ∀ C ∈ cs, (cs.map Value.ref).any (tt (.ref C)) = true) :
    OkS K E false (fun D σ H => tAsg (te (wKeep tt K (cs.map Value.ref) j (fun _ _ _ => tAsg (tVar j) (gName m)) D)) (gName i) D σ H) (keepS i j m cs f) := by
  refine ⟨?_⟩
  intro B σ H env l rs rp h D post
  unfold keepS at h
  cases hf : f env with
  | none => rw [hf] at h; cases h
  | some z =>
    rw [hf] at h
    cases z with
    | ok w e =>
      refine (o _ _).run rp hf fun v H' lw r1 f1 q1 nd fr => ?_
      obtain ⟨hi, h2⟩ := putM_step h
      cases h2
      obtain ⟨l', r', mm⟩ := r1.put hi q1 nd fun b z => ⟨fun y => rp.fresh (fr b z) (.inr y), fun y => rp.fresh (fr b z) (.inl y)⟩
      exact post _ H' l' r' ⟨f1, fun b z => (mm b z).imp id (fr b)⟩ fun z => by cases z
    | ex C fl d =>
      simp only at h
      split at h
      case isFalse => cases h
      rename_i hh
      obtain ⟨hC, hn, hm, hj, jm, ej⟩ := hh
      cases h
      have l0 := rpe_nil rp.rp hn
      subst l0
      refine (o _ _).run rp hf fun dx H' v f1 nB hd dv => ?_
      have s1 : Same H H' := fun b o e => f1 b o (fun z => by cases z) e
      refine ⟨C, rfl, hx C hC, ht C hC, fun a na => ?_⟩
      have sl : σ.length = env.length := rp.len
      have sj : (σ.set j (some (.ref a)))[j]? = some (some (.ref a)) := by rw [List.getElem?_set_self (by omega)]
      refine ⟨.ref a, sj, ?_⟩
      obtain ⟨k, cl⟩ := hc C hC
      have s2 : Same H' (upd H' a (exg a C (some dx))) := same_new na _
      have r2 : Rep K B σ (upd H' a (exg a C (some dx))) env [] := (rp.same s1).same s2
      show D.nx ((((σ.set j (some (.ref a))).set m (some (.ref a))).set j none)) (upd H' a (exg a C (some dx)))
      refine post _ _ [] ?_ (Fr2.of (fun b o n e => s2 _ _ (s1 _ _ e))) fun z => by cases z
      have rf := (rp.same s1).fresh na
      have nda : dx ≠ a := fun z => by rw [z, na] at hd; cases hd
      have sub : Same (off B H') (off (un (un B []) []) (upd H' a (exg a C (some dx)))) := by
        rw [un_nil, un_nil]
        exact off_mono (fun b z n => absurd z n) fun b o n e => s2 _ _ e
      have na' : ¬ un (un B []) [] a := by rw [un_nil, un_nil]; exact fun z => rf (.inl z)
      have nd' : ¬ un (un B []) [] dx := by rw [un_nil, un_nil]; exact nB
      have r3 : Rep K (un B []) σ (upd H' a (exg a C (some dx))) env [] := by rw [un_nil]; exact r2
      obtain ⟨l', r4, mm⟩ := r3.put (i := m) (v := .ref a) (w := .exc C fl d) hm ⟨rfl, a, v, rfl, ⟨k, dx, cl, (off_ne na').trans upd_same, (off_ne nd').trans ((upd_ne nda).trans hd)⟩, Da.same sub d dv⟩ List.nodup_nil fun b z => by cases z
      have e' : l' = [] := by
        cases l' with
        | nil => rfl
        | cons b _ => rcases mm b (List.mem_cons_self ..) with z | z <;> cases z
      subst e'
      refine ⟨r4.rp.any (by simp) fun p w hp => ?_, r4.nd, r4.out, r4.tb⟩
      by_cases pj : p = j
      · subst pj
        rw [List.getElem?_set_ne (fun z => jm z.symm), isEmp_ok ej] at hp
        cases hp
      · rw [List.getElem?_set_ne (fun z => pj z.symm)]
        by_cases pm : p = m
        · subst pm
          rw [List.getElem?_set_self (by rw [List.length_set]; omega), List.getElem?_set_self (by omega)]
        · rw [List.getElem?_set_ne (fun z => pm z.symm), List.getElem?_set_ne (fun z => pj z.symm), List.getElem?_set_ne (fun z => pm z.symm)]
def tE : Value → Value → Bool
  | .ref a, .ref b => decide (a = b)
  | _, _ => false
theorem OkS.keepC {i j m : Nat} {cs : List Addr} {te : WX → TE} {f : M Wv} (o : ∀ (W : WX) (σ : St), OkWat K (fun cls d H' => W cls d σ H') σ (te W) f) (hc : ∀ C ∈ cs, ∃ k, Cl K C k) :
    OkS K E false (fun D σ H => tAsg (te (wKeep tE K (cs.map Value.ref) j (fun _ _ _ => tAsg (tVar j) (gName m)) D)) (gName i) D σ H) (keepS i j m cs f) := by
  refine OkS.keep o hc (fun C hC c hcc => ?_) fun C hC => List.any_eq_true.mpr ⟨.ref C, List.mem_map.mpr ⟨C, hC, rfl⟩, decide_eq_true rfl⟩
  obtain ⟨D, hD, rfl⟩ := List.mem_map.mp hcc
  obtain ⟨k, cl⟩ := hc C hC
  obtain ⟨k', cl'⟩ := hc D hD
  exact cl.exm cl'
theorem kit_own {cs : List Addr} {D : Addr} {j : Nat} (hc : ∀ C ∈ cs, ∃ k, Cl K C k) (cl : Cl K D j) (C : Addr) (x : Bool) (h : (if C ∈ cs then some (decide (C = D)) else none) = some x) : PySem.W.kitOne K (.ref C) (.ref D) = some x := by
  by_cases hC : C ∈ cs
  · rw [if_pos hC] at h
    obtain ⟨k, cl'⟩ := hc C hC
    rw [← h]
    exact cl'.own cl
  · rw [if_neg hC] at h
    cases h
def inT (ts : List (Addr × Bool)) (C : Addr) : Option Bool := (ts.find? fun p => decide (p.1 = C)).map (·.2)
theorem kit_bas {ts : List (Addr × Bool)} {T : String} (hm : PySem.W.kitMeta T = true) (hc : ∀ p ∈ ts, ∃ k, Cl K p.1 k ∧ (tl k).contains (.type T) = p.2) (C : Addr) (x : Bool) (h : inT ts C = some x) : PySem.W.kitOne K (.ref C) (.type T) = some x := by
  obtain ⟨p, h1, h2⟩ := Option.map_eq_some_iff.mp h
  have hp := List.mem_of_find?_eq_some h1
  have he : p.1 = C := of_decide_eq_true (p := p.1 = C) (by have := List.find?_some h1; simpa using this)
  obtain ⟨k, cl, hb⟩ := hc p hp
  subst h2
  rw [← he]
  exact cl.bas T p.2 hm hb
theorem no_of {cs : List Addr} {f : Str} (hc : ∀ C ∈ cs, PySem.W.findIn K (.ref C) f = some none) (C : Addr) (h : decide (C ∈ cs) = true) : PySem.W.findIn K (.ref C) f = some none := hc C (of_decide_eq_true h)
end
end Ov

set_option Elab.async false
set_option linter.all false
set_option maxRecDepth 100000
set_option maxHeartbeats 4000000
namespace Ov
open PySem L2
/-! a caught error: its class, its attribute -/
section
variable {X : Cx}
def rIsCT (K : PySem.W.Frag) : List V → Hp → VK → Prop := fun xs H Q => ∃ (a C : Addr) (fs : List (Str × V)) (tp : Addr) (cs : List V) (us : List Value) (b : Bool), xs = [.ref a, .ref tp] ∧ H tp = some (.tup cs) ∧ Paired ClsV cs us ∧ Cau K H a C fs ∧ PySem.W.kitAny K (.ref C) us = some b ∧ Q (.bl b) H
theorem call_isCT : CallR X (.builtin "isinstance") (rIsCT X.K) := by
  intro pins s σ H xs us Q I r h
  obtain ⟨a, C, fs, tp, cs, ws, b, rfl, hT, k, ex, e, q⟩ := h
  obtain ⟨u1, u2, rfl, r1, r2⟩ := vals2 r
  obtain rfl : u2 = Value.ref tp := r2
  obtain rfl : u1 = Value.ref a := r1
  obtain ⟨P, Z, p⟩ := cau_kit I ex
  obtain ⟨_, its, rv, o, h1, h2, n, h3⟩ := (show ObjOk X.prog X.w H s.heap tp (.tup cs) from I.hok tp _ hT)
  have e3 := ClsV.all k rv
  subst e3
  obtain ⟨oc, od, dt, sl⟩ := o
  simp only at h2 h3
  subst h2 h3
  exact PySem.W.kia_tup Z I.kIn p h1 e (fun z => nomatch z) fun tk => ⟨.bl b, H, I.tok tk, rfl, q⟩
end
section
variable {K : PySem.W.Frag} {E : XK}
def excOf : R → Option (Addr × Str × PyData)
  | .exc C f d => some (C, f, d)
  | _ => none
theorem excOf_some {r : R} {x : Addr × Str × PyData} (h : excOf r = some x) : r = .exc x.1 x.2.1 x.2.2 := by
  cases r with
  | exc C f d => cases h; rfl
  | dat _ => cases h
  | slot _ => cases h
/-- isinstance(error, class), by the class of the error -/
def isiX (b : Addr → Option Bool) (fe : M R) : M R := M.bind fe fun r => M.bind (lift (excOf r)) fun x => M.bind (lift (b x.1)) fun y => M.pure (ofB y)
theorem OkE.isiX {te : TE} {fe : M R} {c : V} {u : Value} {b : Addr → Option Bool} (hu : ClsV c u) (kit : ∀ C x, b C = some x → PySem.W.kitOne K (.ref C) u = some x) (o : OkE K E te fe) : OkE K E (tCB (rIsC K) (tCons te (tCons (tC c) tNil))) (Ov.isiX b fe) := by
  refine ⟨?_⟩
  intro B σ H env l rs rp h Q post
  refine o.seq rp h post.exn fun a e v H1 h1 r1 f1 q1 => ?_
  obtain ⟨x, h2, h3⟩ := lift_step h1
  obtain ⟨y, h4, h5⟩ := lift_step h3
  cases h5
  rw [excOf_some h2] at q1
  obtain ⟨ad, w, rfl, cau, dw⟩ := q1
  exact ⟨ad, x.1, _, c, u, y, rfl, hu, cau.same (off_sub _ _), kit _ _ h4, post _ H1 r1 f1 (by cases y <;> exact .bl _)⟩
/-- isinstance(error, (class, ..)) -/
theorem OkE.isiXT {te : TE} {fe : M R} {cs : List V} {us : List Value} {tc : TE} {b : Addr → Option Bool} (ht : ∀ (σ : St) (H : Hp) (Q : VK), (∀ tp, H tp = none → Q (.ref tp) (upd H tp (.tup cs))) → tc σ H Q) (hu : Paired ClsV cs us) (kit : ∀ C x, b C = some x → PySem.W.kitAny K (.ref C) us = some x) (o : OkE K E te fe) : OkE K E (tCB (rIsCT K) (tCons te (tCons tc tNil))) (Ov.isiX b fe) := by
  refine ⟨?_⟩
  intro B σ H env l rs rp h Q post
  refine o.seq rp h post.exn fun a e v H1 h1 r1 f1 q1 => ?_
  obtain ⟨x, h2, h3⟩ := lift_step h1
  obtain ⟨y, h4, h5⟩ := lift_step h3
  cases h5
  rw [excOf_some h2] at q1
  obtain ⟨ad, w, rfl, cau, dw⟩ := q1
  refine ht _ _ _ fun tp hn => ?_
  have s2 : Same H1 (upd H1 tp (.tup cs)) := same_new hn _
  exact ⟨ad, x.1, _, tp, cs, us, y, rfl, upd_same, hu, (cau.same (off_sub _ _)).same s2, kit _ _ h4, post _ _ (r1.same s2) (f1.trans (Fr.of s2)) (by cases y <;> exact .bl _)⟩
/-- error.attribute -/
def attrX (f : Str) (ok : Addr → Bool) (fe : M R) : M R := M.bind fe fun r => M.bind (lift (excOf r)) fun x => M.bind (lift (if x.2.1 = f ∧ ok x.1 = true then some x.2.2 else none)) fun d => M.pure (.dat d)
theorem OkE.attrX {te : TE} {fe : M R} {f : Str} {ok : Addr → Bool} (no : ∀ C, ok C = true → PySem.W.findIn K (.ref C) f = some none) (o : OkE K E te fe) : OkE K E (tCaf K f te) (Ov.attrX f ok fe) := by
  refine ⟨?_⟩
  intro B σ H env l rs rp h Q post
  refine o.seq rp h post.exn fun a e v H1 h1 r1 f1 q1 => ?_
  obtain ⟨x, h2, h3⟩ := lift_step h1
  obtain ⟨d, h4, h5⟩ := lift_step h3
  cases h5
  by_cases hh : x.2.1 = f ∧ ok x.1 = true
  case neg => rw [if_neg hh] at h4; cases h4
  rw [if_pos hh] at h4
  cases h4
  rw [excOf_some h2] at q1
  obtain ⟨ad, w, rfl, cau, dw⟩ := q1
  refine ⟨ad, x.1, _, w, rfl, cau.same (off_sub _ _), no _ hh.2, ?_, post w H1 r1 f1 dw⟩
  rw [hh.1]
  simp [List.lookup]
theorem kit_any {cs : List Addr} (hc : ∀ C ∈ cs, ∃ k, Cl K C k) {C : Addr} : ∀ {ds : List Addr}, (∀ D ∈ ds, ∃ k, Cl K D k) → ∀ x : Bool, (if C ∈ cs then some (decide (C ∈ ds)) else none) = some x → PySem.W.kitAny K (.ref C) (ds.map Value.ref) = some x
  | [], _, x, h => by
    by_cases hC : C ∈ cs
    · rw [if_pos hC] at h
      rw [← h]
      simp [PySem.W.kitAny]
    · rw [if_neg hC] at h
      cases h
  | D :: ds, hd, x, h => by
    by_cases hC : C ∈ cs
    · rw [if_pos hC] at h
      obtain ⟨k, cl⟩ := hc C hC
      obtain ⟨j, cd⟩ := hd D (List.mem_cons_self ..)
      have ih := kit_any hc (C := C) (ds := ds) (fun D hD => hd D (List.mem_cons_of_mem _ hD)) (decide (C ∈ ds)) (by rw [if_pos hC])
      rw [List.map_cons, PySem.W.kitAny, cl.own cd]
      rw [← h]
      by_cases e : C = D
      · subst e
        simp
      · simp only [e, decide_false, ih, List.mem_cons, false_or]
    · rw [if_neg hC] at h
      cases h
theorem pair_own : ∀ ds : List Addr, Paired ClsV (ds.map V.ref) (ds.map Value.ref)
  | [] => .nil
  | D :: ds => .cons (.own D) (pair_own ds)
end
end Ov

set_option Elab.async false
set_option linter.all false
set_option maxRecDepth 100000
set_option maxHeartbeats 4000000
namespace Ov
open PySem L2
section
variable {X : Cx} {K : PySem.W.Frag}
theorem cr_divmod : CallR X (.builtin "divmod") (fun xs H Q => ∃ i j, xs = [.int i, .int j] ∧ CDiv i j ∧ ∀ p, H p = none → Q (.ref p) (upd H p (.tup [.int (i / j), .int (i % j)]))) := by
  intro pins s σ H xs us Q I r h
  obtain ⟨i, j, rfl, hc, q⟩ := h
  obtain ⟨u, w', rfl, ⟨t, rfl⟩, ⟨t', rfl⟩⟩ := vals2 r
  have h1 : (0 : Int) < j := hc.1
  have h2 : j < 1073741824 := hc.2
  have hf : H s.heap.objs.size = none := I.hok.fresh (Nat.le_refl _)
  refine PyProof.Rows.divmod_int (by omega) ?_ (.inl (PyProof.noPylong_small (by omega)))
  rw [Int.fdiv_eq_ediv_of_nonneg i (by omega), Int.fmod_eq_emod_of_nonneg i (by omega)]
  refine ⟨.ref s.heap.objs.size, upd H s.heap.objs.size (.tup [.int (i / j), .int (i % j)]), I.laid (t' := s.toks + 1 + 1) (fun b u e => Heap.get?_push_of_some _ e) (Nat.le_refl _) ?_, rfl, q _ hf⟩
  exact ⟨(show 2 ≤ sizeLine by decide), _, .cons ⟨_, rfl⟩ (.cons ⟨_, rfl⟩ .nil), ⟨_, Heap.get?_push_size _ rfl, rfl, _, rfl⟩⟩
def dmD (as : List PyData) : Option PyData :=
  match as with
  | [.int i, .int j] => if pDiv i j = true then some (.tuple [.int (i / j), .int (i % j)]) else none
  | _ => none
theorem ok_dm : CbOk K (fun xs H Q => ∃ i j, xs = [.int i, .int j] ∧ CDiv i j ∧ ∀ p, H p = none → Q (.ref p) (upd H p (.tup [.int (i / j), .int (i % j)]))) dmD := by
  intro S H xs as d hS w e Q q
  unfold dmD at e
  split at e
  · rename_i i j
    by_cases hp : pDiv i j = true
    · rw [if_pos hp] at e
      cases e
      obtain ⟨x, y, rfl, hx, hy⟩ := vwAll2 w
      cases vw_int hx; cases vw_int hy
      exact ⟨i, j, rfl, of_decide_eq_true (p := 0 < j ∧ j < 1073741824) hp, fun p hp => q _ _ (same_new hp _) (new_dp hS hp (da_ints [i / j, i % j])).2⟩
    · rw [if_neg hp] at e; cases e
  · cases e
theorem v_dm {i j : Int} (h : pDiv i j = true) : dmD [.int i, .int j] = some (.tuple [.int (i / j), .int (i % j)]) := if_pos h
end
end Ov

set_option Elab.async false
set_option linter.all false
set_option maxRecDepth 100000
set_option maxHeartbeats 4000000
namespace Ov
open PySem L2
/-! several values at once, some of them lists of their own -/
inductive RvAll (K : PySem.W.Frag) (H G : Hp) : List V → List Wv → List Addr → Prop
  | nil : RvAll K H G [] [] []
  | cons {v : V} {w : Wv} {vs : List V} {ws : List Wv} {a b : List Addr} : RpW K H G v w a → RvAll K H G vs ws b → RvAll K H G (v :: vs) (w :: ws) (a ++ b)
section
variable {K : PySem.W.Frag} {E : XK} {bx : Bool}
theorem RvAll.mv {H H' G G' : Hp} (s : Same G G') : ∀ {vs : List V} {ws : List Wv} {l : List Addr}, RvAll K H G vs ws l → (∀ q ∈ l, H' q = H q) → RvAll K H' G' vs ws l
  | _, _, _, .nil, _ => .nil
  | _, _, _, .cons q r, k => .cons (q.mv s fun c z => k c (List.mem_append_left _ z)) (RvAll.mv s r fun c z => k c (List.mem_append_right _ z))
theorem RvAll.trk {H G : Hp} : ∀ {vs : List V} {ws : List Wv} {l : List Addr}, RvAll K H G vs ws l → ∀ q ∈ l, ∃ o, H q = some o ∧ NT o
  | _, _, _, .nil, q, z => by cases z
  | _, _, _, .cons h r, q, z => (List.mem_append.mp z).elim (fun z => RpW.trk h q z) fun z => RvAll.trk r q z
theorem RvAll.len {H G : Hp} : ∀ {vs : List V} {ws : List Wv} {l : List Addr}, RvAll K H G vs ws l → vs.length = ws.length
  | _, _, _, .nil => rfl
  | _, _, _, .cons _ r => by rw [List.length_cons, List.length_cons, RvAll.len r]
def PostV (K : PySem.W.Frag) (E : XK) (B : Addr → Prop) (σ : St) (H : Hp) (l : List Addr) (rs : Rs (List Wv)) (Q : List V → Hp → Prop) : Prop :=
  match rs with
  | .ok ws env' => ∀ vs H' lw, Rep K (un B lw) σ H' env' l → Fr l H H' → RvAll K H' (off (un (un B lw) l) H') vs ws lw → lw.Nodup → (∀ b ∈ lw, H b = none) → Q vs H'
  | .ex C f d => Exn K E B H l C f d
structure OkV (K : PySem.W.Frag) (E : XK) (t : TA) (f : M (List Wv)) : Prop where
  run : ∀ {B : Addr → Prop} {σ : St} {H : Hp} {env : En} {l : List Addr} {rs : Rs (List Wv)}, Rep K B σ H env l → f env = some rs → ∀ {Q : List V → Hp → Prop}, PostV K E B σ H l rs Q → t σ H Q
theorem PostV.exn {B : Addr → Prop} {σ : St} {H : Hp} {l : List Addr} {rs : Rs (List Wv)} {Q : List V → Hp → Prop} (h : PostV K E B σ H l rs Q) : ∀ C f d, rs = .ex C f d → Exn K E B H l C f d := fun C f d e => by subst e; exact h
theorem OkV.seq {α : Type} {ta : TA} {fa : M (List Wv)} {g : List Wv → M α} (oa : OkV K E ta fa) {B : Addr → Prop} {σ : St} {H : Hp} {env : En} {l : List Addr} {rs : Rs α} (r : Rep K B σ H env l) (h : (M.bind fa g) env = some rs) {Q : List V → Hp → Prop}
    (hx : ∀ C f d, rs = .ex C f d → Exn K E B H l C f d) (hq : ∀ a e v H' lw, g a e = some rs → Rep K (un B lw) σ H' e l → Fr l H H' → RvAll K H' (off (un (un B lw) l) H') v a lw → lw.Nodup → (∀ b ∈ lw, H b = none) → Q v H') : ta σ H Q := by
  rcases bind_some h with ⟨a, e, h1, h2⟩ | ⟨C, f, d, h1, h2⟩
  · exact oa.run r h1 (fun v H' lw r' fr q n1 n2 => hq a e v H' lw h2 r' fr q n1 n2)
  · exact oa.run r h1 (hx C f d h2)
def wnil : M (List Wv) := M.pure []
def wcons (f : M Wv) (g : M (List Wv)) : M (List Wv) := M.bind f fun a => M.bind g fun as => M.pure (a :: as)
theorem OkV.nil : OkV K E tNil wnil := by
  refine ⟨?_⟩
  intro B σ H env l rs rp h Q post
  cases h
  exact post [] H [] (by rw [un_nil]; exact rp) (Fr.refl _ _) .nil List.nodup_nil fun b z => by cases z
theorem OkV.cons {ta : TE} {tr : TA} {fa : M Wv} {fr : M (List Wv)} (oa : OkW K E ta fa) (or : OkV K E tr fr) : OkV K E (tCons ta tr) (wcons fa fr) := by
  refine ⟨?_⟩
  intro B σ H env l rs rp h Q post
  refine oa.seq rp h post.exn fun w1 e1 v1 H1 l1 h1 r1 f1 q1 nd1 fr1 => ?_
  have n1 : ∀ b ∈ l1, ¬ un B l b := fun b z => rp.fresh (fr1 b z)
  have ex1 : ∀ C f d, rs = .ex C f d → Exn K E (un B l1) H1 l C f d := fun C f d e => by
    have := (post.exn C f d e).later f1
    exact fun dx H' v fr n hh q => this dx H' v fr (fun z => n (.inl z)) hh (Da.same (off_mono (fun b z n => absurd (.inl z) n) fun b o n e => e) d q)
  refine or.seq r1 h1 ex1 fun ws e2 vs H2 l2 h2 r2 f2 q2 nd2 fr2 => ?_
  cases h2
  have n2 : ∀ b ∈ l2, ¬ un (un B l1) l b := fun b z => r1.fresh (fr2 b z)
  refine post (v1 :: vs) H2 (l1 ++ l2) (by rw [← un_app]; exact r2) (f1.trans f2) (.cons ?_ (by rw [← un_app]; exact q2)) ?_ fun b z => ?_
  · rw [← un_app]
    refine q1.mv (off_mono (fun b z n => ?_) fun b o n e => f2 b o (fun z => n (.inr z)) e) fun b z => ?_
    · rcases z with (z | z) | z
      · exact absurd (.inl z) n
      · exact fr2 b z
      · exact absurd (.inr z) n
    · obtain ⟨o, e, _⟩ := q1.trk b z
      rw [e]
      exact f2 b o (fun y => n1 b z (.inr y)) e
  · exact List.nodup_append.mpr ⟨nd1, nd2, fun x hx y hy e => n2 y hy (.inl (.inr (e ▸ hx)))⟩
  · rcases List.mem_append.mp z with z | z
    · exact fr1 b z
    · cases q : H b with
      | none => rfl
      | some o =>
        have := f1 b o (fun y => n2 b z (.inr y)) q
        rw [fr2 b z] at this
        cases this
def putsE : List Nat → List Wv → En → Option En
  | [], [], env => some env
  | i :: is, w :: ws, env => if i < env.length then putsE is ws (env.set i (some w)) else none
  | _, _, _ => none
def setsV : List Nat → List V → St → St
  | i :: is, v :: vs, σ => setsV is vs (σ.set i (some v))
  | _, _, σ => σ
theorem puts {H : Hp} : ∀ {is : List Nat} {ws : List Wv} {vs : List V} {lw : List Addr} {B : Addr → Prop} {σ : St} {env env' : En} {l : List Addr}, Rep K (un B lw) σ H env l → RvAll K H (off (un (un B lw) l) H) vs ws lw → lw.Nodup → (∀ b ∈ lw, b ∉ l ∧ ¬ B b) →
    putsE is ws env = some env' → ∃ l', Rep K B (setsV is vs σ) H env' l' ∧ (∀ b ∈ l', b ∈ l ∨ b ∈ lw)
  | [], [], vs, lw, B, σ, env, env', l, r, q, nd, hw, e => by
    cases q
    cases e
    rw [un_nil] at r
    exact ⟨l, r, fun b z => .inl z⟩
  | [], w :: ws, vs, lw, B, σ, env, env', l, r, q, nd, hw, e => by cases e
  | i :: is, [], vs, lw, B, σ, env, env', l, r, q, nd, hw, e => by cases e
  | i :: is, w :: ws, vs, lw, B, σ, env, env', l, r, q, nd, hw, e => by
    cases q with
    | cons q1 q2 =>
      rename_i v vs a b
      by_cases hi : i < env.length
      case neg => rw [putsE, if_neg hi] at e; cases e
      rw [putsE, if_pos hi] at e
      have ec : un B (a ++ b) = un (un B b) a := by
        funext c
        exact propext ⟨fun z => z.elim (fun z => .inl (.inl z)) fun z => (List.mem_append.mp z).elim .inr fun z => .inl (.inr z), fun z => z.elim (fun z => z.elim .inl fun z => .inr (List.mem_append_right _ z)) fun z => .inr (List.mem_append_left _ z)⟩
      obtain ⟨na, nb, nab⟩ := List.nodup_append.mp nd
      rw [ec] at r q1
      obtain ⟨l3, r3, m3⟩ := r.put hi q1 na fun c z => ⟨(hw c (List.mem_append_left _ z)).1, fun y => y.elim (hw c (List.mem_append_left _ z)).2 fun y => nab c z c y rfl⟩
      have q2' : RvAll K H (off (un (un B b) l3) H) vs ws b := by
        refine q2.mv (off_mono (fun c z n => absurd ?_ n) fun c o n e => e) fun _ _ => rfl
        rcases z with (z | z) | z
        · exact .inl (.inl z)
        · exact .inl (.inr (List.mem_append_right _ z))
        · exact (m3 c z).elim .inr fun z => .inl (.inr (List.mem_append_left _ z))
      obtain ⟨l4, r4, m4⟩ := puts r3 q2' nb (fun c z => ⟨fun y => (m3 c y).elim (hw c (List.mem_append_right _ z)).1 fun y => nab c y c z rfl, (hw c (List.mem_append_right _ z)).2⟩) e
      refine ⟨l4, r4, fun c z => ?_⟩
      rcases m4 c z with z | z
      · exact (m3 c z).imp id (List.mem_append_left _)
      · exact .inr (List.mem_append_right _ z)
theorem setsV_zero : ∀ {is : List Nat} {vs : List V} {σ : St}, 0 ∉ is → (setsV is vs σ)[0]? = σ[0]?
  | [], vs, σ, h => by cases vs <;> rfl
  | i :: is, [], σ, h => rfl
  | i :: is, v :: vs, σ, h => by
    rw [setsV, setsV_zero fun z => h (List.mem_cons_of_mem _ z), List.getElem?_set_ne fun z => h (by rw [z]; exact List.mem_cons_self ..)]
theorem putsE_len : ∀ {is : List Nat} {ws : List Wv} {env env' : En}, putsE is ws env = some env' → ws.length = is.length
  | [], [], _, _, _ => rfl
  | [], _ :: _, _, _, e => by cases e
  | _ :: _, [], _, _, e => by cases e
  | i :: is, w :: ws, env, env', e => by
    unfold putsE at e
    split at e
    · rw [List.length_cons, List.length_cons, putsE_len e]
    · cases e
def gNs : List Nat → TGs
  | [] => gNil
  | i :: is => gCons (gName i) (gNs is)
theorem gNs_run : ∀ {is : List Nat} {vs : List V} {σ : St} {H : Hp} {Q : St → Hp → Prop}, vs.length = is.length → Q (setsV is vs σ) H → gNs is vs σ H Q
  | [], [], σ, H, Q, _, q => ⟨rfl, q⟩
  | [], _ :: _, σ, H, Q, h, q => by simp at h
  | i :: is, [], σ, H, Q, h, q => by simp at h
  | i :: is, v :: vs, σ, H, Q, h, q => ⟨v, vs, rfl, gNs_run (by simpa using h) q⟩
def unW (js : List Nat) (f : M (List Wv)) : M Fl := M.bind f fun ws => M.bind (lift (sz ws.length)) fun _ => M.bind (liftE (putsE js ws)) fun _ => M.pure .nx
theorem OkS.unW {js : List Nat} {t : TA} {f : M (List Wv)} (hb : bx = true → 0 ∉ js) (o : OkV K E t f) : OkS K E bx (tAsg (tTup t) (gTup K js.length (gNs js))) (Ov.unW js f) := by
  refine ⟨?_⟩
  intro B σ H env l rs rp h D post
  refine o.seq rp h post.exn fun ws e vs H1 lw h1 r1 f1 q1 nd1 fr1 => ?_
  obtain ⟨u, e2, h2⟩ := lift_step h1
  obtain ⟨e', h4, h5⟩ := liftE_step h2
  cases h5
  have lv : vs.length = ws.length := q1.len
  refine ⟨by rw [lv]; exact sz_ok e2, fun p hp => ?_⟩
  have s1 := same_new hp (.tup vs)
  have r2 := r1.same s1
  have q2 : RvAll K (upd H1 p (.tup vs)) (off (un (un B lw) l) (upd H1 p (.tup vs))) vs ws lw := by
    refine q1.mv (off_mono (fun b z n => absurd z n) fun b o n e => s1 _ _ e) fun b z => ?_
    obtain ⟨o, e, _⟩ := q1.trk b z
    rw [e]
    exact s1 _ _ e
  have nw : ∀ b ∈ lw, b ∉ l ∧ ¬ B b := fun b z => ⟨fun y => rp.fresh (fr1 b z) (.inr y), fun y => rp.fresh (fr1 b z) (.inl y)⟩
  obtain ⟨l', r', m'⟩ := puts (is := js) r2 q2 nd1 nw h4
  refine ⟨p, vs, rfl, SqT.of upd_same, lv.trans (putsE_len h4), gNs_run (lv.trans (putsE_len h4)) ?_⟩
  exact post _ _ l' r' ⟨f1.trans (Fr.of s1), fun b z => (m' b z).imp id (fr1 b)⟩ fun z => setsV_zero (hb z)
def par3S (i j l : Nat) (f : M (List Wv)) : M Fl := M.bind f fun ws => M.bind (liftE (putsE [i, j, l] ws)) fun _ => M.pure .nx
theorem OkS.par3 {i j l' : Nat} {t : TA} {f : M (List Wv)} (hb : bx = true → 0 ∉ [i, j, l']) (o : OkV K E t f) : OkS K E bx (tPar3 i j l' t) (Ov.par3S i j l' f) := by
  refine ⟨?_⟩
  intro B σ H env l rs rp h D post
  refine o.seq rp h post.exn fun ws e vs H1 lw h1 r1 f1 q1 nd1 fr1 => ?_
  obtain ⟨e', h4, h5⟩ := liftE_step h1
  cases h5
  have lv : vs.length = 3 := q1.len.trans (putsE_len h4)
  have nw : ∀ b ∈ lw, b ∉ l ∧ ¬ B b := fun b z => ⟨fun y => rp.fresh (fr1 b z) (.inr y), fun y => rp.fresh (fr1 b z) (.inl y)⟩
  obtain ⟨l2, r', m'⟩ := puts (is := [i, j, l']) r1 q1 nd1 nw h4
  match vs, lv, r' with
  | [a, b, c], _, r' => exact ⟨a, b, c, rfl, post _ _ l2 r' ⟨f1, fun b z => (m' b z).imp id (fr1 b)⟩ fun z => setsV_zero (vs := [a, b, c]) (hb z)⟩
end
end Ov

set_option Elab.async false
set_option linter.all false
set_option maxRecDepth 100000
set_option maxHeartbeats 4000000
namespace Ov
open PySem L2
def top (i : Nat) : Stmt := PySem.Challenge.pw_overlooks_k66_whole_valleys_by_hand.main.body.getD i (.Pass ⟨0, 0, 0, 0⟩)
abbrev S_code_of : Stmt := top 5
abbrev N_code_of : List Str := ["row", "height", "other"]
abbrev P_code_of : List Str := ["row", "height"]
theorem sc_code_of : FnScope N_code_of P_code_of (defScope S_code_of) := ⟨rfl, rfl, rfl, by decide +kernel, rfl, by decide +kernel, by decide +kernel⟩
abbrev S_codes : Stmt := top 6
abbrev N_codes : List Str := ["row", "height"]
abbrev P_codes : List Str := ["row"]
theorem sc_codes : FnScope N_codes P_codes (defScope S_codes) := ⟨rfl, rfl, rfl, by decide +kernel, rfl, by decide +kernel, by decide +kernel⟩
abbrev S_row_with : Stmt := top 7
abbrev N_row_with : List Str := ["row", "codes", "people", "height", "code"]
abbrev P_row_with : List Str := ["row", "codes"]
theorem sc_row_with : FnScope N_row_with P_row_with (defScope S_row_with) := ⟨rfl, rfl, rfl, by decide +kernel, rfl, by decide +kernel, by decide +kernel⟩
abbrev S_first_intervals : Stmt := top 9
abbrev N_first_intervals : List Str := ["many", "index"]
abbrev P_first_intervals : List Str := ["many"]
theorem sc_first_intervals : FnScope N_first_intervals P_first_intervals (defScope S_first_intervals) := ⟨rfl, rfl, rfl, by decide +kernel, rfl, by decide +kernel, by decide +kernel⟩
abbrev S_run_size : Stmt := top 10
abbrev N_run_size : List Str := ["interval", "first", "last"]
abbrev P_run_size : List Str := ["interval"]
theorem sc_run_size : FnScope N_run_size P_run_size (defScope S_run_size) := ⟨rfl, rfl, rfl, by decide +kernel, rfl, by decide +kernel, by decide +kernel⟩
abbrev S_run_index : Stmt := top 11
abbrev N_run_index : List Str := ["intervals", "code", "first", "last"]
abbrev P_run_index : List Str := ["intervals", "code"]
theorem sc_run_index : FnScope N_run_index P_run_index (defScope S_run_index) := ⟨rfl, rfl, rfl, by decide +kernel, rfl, by decide +kernel, by decide +kernel⟩
abbrev S_next_intervals : Stmt := top 12
abbrev N_next_intervals : List Str := ["intervals", "code", "at", "left", "right", "united", "above", "first", "last"]
abbrev P_next_intervals : List Str := ["intervals", "code"]
theorem sc_next_intervals : FnScope N_next_intervals P_next_intervals (defScope S_next_intervals) := ⟨rfl, rfl, rfl, by decide +kernel, rfl, by decide +kernel, by decide +kernel⟩
abbrev S_run_lists : Stmt := top 13
abbrev N_run_lists : List Str := ["row", "lists", "intervals", "code"]
abbrev P_run_lists : List Str := ["row"]
theorem sc_run_lists : FnScope N_run_lists P_run_lists (defScope S_run_lists) := ⟨rfl, rfl, rfl, by decide +kernel, rfl, by decide +kernel, by decide +kernel⟩
abbrev S_runs : Stmt := top 14
abbrev N_runs : List Str := ["row", "intervals", "code"]
abbrev P_runs : List Str := ["row"]
theorem sc_runs : FnScope N_runs P_runs (defScope S_runs) := ⟨rfl, rfl, rfl, by decide +kernel, rfl, by decide +kernel, by decide +kernel⟩
abbrev S_clear_between : Stmt := top 16
abbrev N_clear_between : List Str := ["row", "left", "right", "limit", "height"]
abbrev P_clear_between : List Str := ["row", "left", "right"]
theorem sc_clear_between : FnScope N_clear_between P_clear_between (defScope S_clear_between) := ⟨rfl, rfl, rfl, by decide +kernel, rfl, by decide +kernel, by decide +kernel⟩
abbrev S_sights : Stmt := top 17
abbrev N_sights : List Str := ["row", "many", "left", "right"]
abbrev P_sights : List Str := ["row"]
theorem sc_sights : FnScope N_sights P_sights (defScope S_sights) := ⟨rfl, rfl, rfl, by decide +kernel, rfl, by decide +kernel, by decide +kernel⟩
abbrev S_exchanges : Stmt := top 18
abbrev N_exchanges : List Str := ["row", "left", "right"]
abbrev P_exchanges : List Str := ["row"]
theorem sc_exchanges : FnScope N_exchanges P_exchanges (defScope S_exchanges) := ⟨rfl, rfl, rfl, by decide +kernel, rfl, by decide +kernel, by decide +kernel⟩
abbrev S_check_same_people : Stmt := top 20
abbrev N_check_same_people : List Str := ["one", "other"]
abbrev P_check_same_people : List Str := ["one", "other"]
theorem sc_check_same_people : FnScope N_check_same_people P_check_same_people (defScope S_check_same_people) := ⟨rfl, rfl, rfl, by decide +kernel, rfl, by decide +kernel, by decide +kernel⟩
abbrev S_leads : Stmt := top 21
abbrev N_leads : List Str := ["one", "other"]
abbrev P_leads : List Str := ["one", "other"]
theorem sc_leads : FnScope N_leads P_leads (defScope S_leads) := ⟨rfl, rfl, rfl, by decide +kernel, rfl, by decide +kernel, by decide +kernel⟩
abbrev S_bar : Stmt := top 22
abbrev N_bar : List Str := ["one", "other", "height", "here", "there"]
abbrev P_bar : List Str := ["one", "other"]
theorem sc_bar : FnScope N_bar P_bar (defScope S_bar) := ⟨rfl, rfl, rfl, by decide +kernel, rfl, by decide +kernel, by decide +kernel⟩
abbrev S_count_rows : Stmt := top 25
abbrev N_count_rows : List Str := ["row", "total", "interval"]
abbrev P_count_rows : List Str := ["row"]
theorem sc_count_rows : FnScope N_count_rows P_count_rows (defScope S_count_rows) := ⟨rfl, rfl, rfl, by decide +kernel, rfl, by decide +kernel, by decide +kernel⟩
abbrev S_row_at : Stmt := top 26
abbrev N_row_at : List Str := ["row", "number", "chosen", "left", "interval", "digit"]
abbrev P_row_at : List Str := ["row", "number"]
theorem sc_row_at : FnScope N_row_at P_row_at (defScope S_row_at) := ⟨rfl, rfl, rfl, by decide +kernel, rfl, by decide +kernel, by decide +kernel⟩
abbrev S_all_rows : Stmt := top 27
abbrev N_all_rows : List Str := ["row", "many", "number"]
abbrev P_all_rows : List Str := ["row"]
theorem sc_all_rows : FnScope N_all_rows P_all_rows (defScope S_all_rows) := ⟨rfl, rfl, rfl, by decide +kernel, rfl, by decide +kernel, by decide +kernel⟩
abbrev S_cell_at : Stmt := top 29
abbrev N_cell_at : List Str := ["_law_script", "_law_k"]
abbrev P_cell_at : List Str := ["_law_script", "_law_k"]
theorem sc_cell_at : FnScope N_cell_at P_cell_at (defScope S_cell_at) := ⟨rfl, rfl, rfl, by decide +kernel, rfl, by decide +kernel, by decide +kernel⟩
abbrev S_box : Stmt := top 30
abbrev N_box : List Str := ["_law_script", "_law_k", "_law_core"]
abbrev P_box : List Str := ["_law_script", "_law_k"]
theorem sc_box : FnScope N_box P_box (defScope S_box) := ⟨rfl, rfl, rfl, by decide +kernel, rfl, by decide +kernel, by decide +kernel⟩
abbrev S_take : Stmt := top 31
abbrev N_take : List Str := ["_law_box_here", "_law_below", "_law_found", "_law_once", "_law_twice"]
abbrev P_take : List Str := ["_law_box_here", "_law_below"]
theorem sc_take : FnScope N_take P_take (defScope S_take) := ⟨rfl, rfl, rfl, by decide +kernel, rfl, by decide +kernel, by decide +kernel⟩
abbrev S_of : Stmt := top 32
abbrev N_of : List Str := ["_law_box_here", "_law_some"]
abbrev P_of : List Str := ["_law_box_here", "_law_some"]
theorem sc_of : FnScope N_of P_of (defScope S_of) := ⟨rfl, rfl, rfl, by decide +kernel, rfl, by decide +kernel, by decide +kernel⟩
abbrev S_strewn : Stmt := top 33
abbrev N_strewn : List Str := ["_law_box_here", "_law_some", "_law_left", "_law_found"]
abbrev P_strewn : List Str := ["_law_box_here", "_law_some"]
theorem sc_strewn : FnScope N_strewn P_strewn (defScope S_strewn) := ⟨rfl, rfl, rfl, by decide +kernel, rfl, by decide +kernel, by decide +kernel⟩
abbrev S_souls : Stmt := top 34
abbrev N_souls : List Str := ["_law_box_here", "_law_count", "_law_found", "_law_top", "_law_k", "_law_soul"]
abbrev P_souls : List Str := ["_law_box_here", "_law_count"]
theorem sc_souls : FnScope N_souls P_souls (defScope S_souls) := ⟨rfl, rfl, rfl, by decide +kernel, rfl, by decide +kernel, by decide +kernel⟩
abbrev S_valley_right : Stmt := top 35
abbrev N_valley_right : List Str := ["_law_box_here", "_law_count", "_law_souls_here", "_law_left", "_law_right_here", "_law_soul", "_law_crowd", "_law_first", "_law_last", "_law_due", "_law_total", "_law_k"]
abbrev P_valley_right : List Str := ["_law_box_here"]
theorem sc_valley_right : FnScope N_valley_right P_valley_right (defScope S_valley_right) := ⟨rfl, rfl, rfl, by decide +kernel, rfl, by decide +kernel, by decide +kernel⟩
abbrev S_hill_right : Stmt := top 36
abbrev N_hill_right : List Str := ["_law_box_here", "_law_count", "_law_souls_here", "_law_cut", "_law_tall", "_law_rest", "_law_crowd"]
abbrev P_hill_right : List Str := ["_law_box_here"]
theorem sc_hill_right : FnScope N_hill_right P_hill_right (defScope S_hill_right) := ⟨rfl, rfl, rfl, by decide +kernel, rfl, by decide +kernel, by decide +kernel⟩
abbrev S_shared_right : Stmt := top 37
abbrev N_shared_right : List Str := ["_law_box_here", "_law_teeth", "_law_souls_here", "_law_low", "_law_high", "_law_crowd", "_law_k", "_law_total"]
abbrev P_shared_right : List Str := ["_law_box_here"]
theorem sc_shared_right : FnScope N_shared_right P_shared_right (defScope S_shared_right) := ⟨rfl, rfl, rfl, by decide +kernel, rfl, by decide +kernel, by decide +kernel⟩
abbrev S_right : Stmt := top 38
abbrev N_right : List Str := ["_law_box_here"]
abbrev P_right : List Str := ["_law_box_here"]
theorem sc_right : FnScope N_right P_right (defScope S_right) := ⟨rfl, rfl, rfl, by decide +kernel, rfl, by decide +kernel, by decide +kernel⟩
abbrev S_law : Stmt := top 39
abbrev N_law : List Str := ["_law_script", "_law_k", "_law_box_here", "_law_turn"]
abbrev P_law : List Str := ["_law_script"]
theorem sc_law : FnScope N_law P_law (defScope S_law) := ⟨rfl, rfl, rfl, by decide +kernel, rfl, by decide +kernel, by decide +kernel⟩
abbrev S_OtherPeople : Stmt := inClass (top 1) 0
abbrev P_OtherPeople : List Str := ["self"]
theorem sc_OtherPeople : FnScope P_OtherPeople P_OtherPeople (defScope S_OtherPeople) := ⟨rfl, rfl, rfl, by decide +kernel, rfl, by decide +kernel, by decide +kernel⟩
abbrev S_NoNumber : Stmt := inClass (top 2) 0
abbrev P_NoNumber : List Str := ["self", "number"]
theorem sc_NoNumber : FnScope P_NoNumber P_NoNumber (defScope S_NoNumber) := ⟨rfl, rfl, rfl, by decide +kernel, rfl, by decide +kernel, by decide +kernel⟩
abbrev S_TooMany : Stmt := inClass (top 3) 0
abbrev P_TooMany : List Str := ["self", "many"]
theorem sc_TooMany : FnScope P_TooMany P_TooMany (defScope S_TooMany) := ⟨rfl, rfl, rfl, by decide +kernel, rfl, by decide +kernel, by decide +kernel⟩
def s_cell_at_0 : M Fl :=
    (ifS (tb1 (op2 ltD (get 1) (cb lenD (acons (get 0) anil)))) (retS (pl (op2 ixD (get 0) (get 1)))) nxt)
def s_cell_at_1 : M Fl :=
    (retS (pl (con (.int 0))))
def f_cell_at : M Fl :=
    (thenS s_cell_at_0 s_cell_at_1)
def F_cell_at : List PyData → Option Wv := runA 2 2 f_cell_at
section
variable {P : Program} {w : World} {K : PySem.W.Frag} {mg : Str → Option Value} {base : Heap} {f : Addr} {fd : FuncData}
theorem dk_cell_at (F : Fun K "_law_cell_at" "_law_cell_at" S_cell_at f fd)  (B : Blt mg) : FnOk P w K mg base CX0 1 f fd P_cell_at (spA K F_cell_at) := by
  refine F.ok sc_cell_at (fun vs H Q E h => lenA h) (fun cdv A outer s H vs Q E hr h => ⟨_, (Evl.pss_cut (ps_if (pt_cmpR op_lt (pv 1) (pe_callB (k_len (K := K) rfl) rfl B.len PySem.boot_len (pa_cons (pv 0) pa_nil)) (nomark _)) (pss_one (ps_ret (pe_ix (k_ix (K := K) rfl) (pv 0) (pv 1) (fun _ _ => rfl)))) pss_nil)
      (pss_one (ps_ret pe_int))), ?_⟩)
  exact finA (N := N_cell_at) (by unfold f_cell_at s_cell_at_1 s_cell_at_0; exact (OkS.cut (OkS.ife (OkT.test (OkE.op ok_lt (OkE.var 1) (OkE.cb ok_len (OkA.cons (OkE.var 0) OkA.nil)))) (OkS.ret (OkE.w (OkE.op ok_ix (OkE.var 0) (OkE.var 1)))) OkS.nil)
      (OkS.ret (OkE.w (OkE.con fun _ => .int _))))) h
end
def s_box_0 : M Fl :=
    (setS 2 (pl (fz (callA F_cell_at (acons (get 0) (acons (get 1) anil))))))
def s_box_1 : M Fl :=
    (retS (lstW (acons (op2 mulD (cb absD (acons (get 2) anil)) (cb intD (acons (op2 geD (cb absD (acons (get 2) anil)) (op2 powD (con (.int 10)) (con (.int 18)))) anil))) (acons (op2 addD (op2 addD (op2 modD (get 2) (con (.int 2305843009213693951))) (op2 mulD (con (.int 39373)) (get 1))) (con (.int 29))) (acons (con (.int 0)) anil)))))
def f_box : M Fl :=
    (thenS s_box_0 s_box_1)
def F_box : List PyData → Option Wv := runA 2 3 f_box
section
variable {P : Program} {w : World} {K : PySem.W.Frag} {mg : Str → Option Value} {base : Heap} {f : Addr} {fd : FuncData}
theorem dk_box (F : Fun K "_law_box" "_law_box" S_box f fd) {g_cell_at : Addr} {d_cell_at : FuncData} (G_cell_at : FnOk P w K mg base CX0 1 g_cell_at d_cell_at P_cell_at (spA K F_cell_at)) (b_cell_at : Binds K d_cell_at P_cell_at []) (k_cell_at : PySem.W.keepIn K (.ref g_cell_at) = true) (m_cell_at : mg "_law_cell_at" = some (.ref g_cell_at)) (B : Blt mg) : FnOk P w K mg base CX0 2 f fd P_box (spA K F_box) := by
  refine F.ok sc_box (fun vs H Q E h => lenA h) (fun cdv A outer s H vs Q E hr h => ⟨_, (Evl.pss_cut (ps_set (i := 2) sc_box.nd rfl (by first | exact Or.inl rfl | exact Or.inr rfl) (pe_call G_cell_at (hr.mono (by decide)) rfl m_cell_at k_cell_at b_cell_at .nil pass0 (pa_cons (pv 0) (pa_cons (pv 1) pa_nil))))
      (pss_one (ps_ret (pe_lst (pa_cons (pe_op op_mul (pe_callB call_abs rfl B.abs (by decide +kernel) (pa_cons (pv 2) pa_nil)) (pe_callTy call_int1 rfl B.int (by decide +kernel) (pa_cons (pe_cmpR op_ge (pe_callB call_abs rfl B.abs (by decide +kernel) (pa_cons (pv 2) pa_nil)) (pe_op op_pow pe_int pe_int) (nomark _)) pa_nil))) (pa_cons (pe_op op_add (pe_op op_add (pe_op op_mod (pv 2) pe_int) (pe_op op_mul pe_int (pv 1))) pe_int) (pa_cons pe_int pa_nil))))))), ?_⟩)
  exact finA (N := N_box) (by unfold f_box s_box_1 s_box_0; exact (OkS.cut (OkS.set (fun z => by cases z) (OkE.w (OkW.e (OkW.call (OkA.cons (OkE.var 0) (OkA.cons (OkE.var 1) OkA.nil))))))
      (OkS.ret (OkW.lst (OkA.cons (OkE.op ok_mul (OkE.cb ok_abs (OkA.cons (OkE.var 2) OkA.nil)) (OkE.cb ok_int (OkA.cons (OkE.op ok_ge (OkE.cb ok_abs (OkA.cons (OkE.var 2) OkA.nil)) (OkE.op ok_pow (OkE.con fun _ => .int _) (OkE.con fun _ => .int _))) OkA.nil))) (OkA.cons (OkE.op ok_add (OkE.op ok_add (OkE.op ok_mod (OkE.var 2) (OkE.con fun _ => .int _)) (OkE.op ok_mul (OkE.con fun _ => .int _) (OkE.var 1))) (OkE.con fun _ => .int _)) (OkA.cons (OkE.con fun _ => .int _) OkA.nil))))))) h
end
def f_take (rec : List PyData → List PyData → Option (Wv × List PyData)) : M Fl :=
    (thenS (ifS (tb1 (op2 gtD (op2 ixD (get 0) (con (.int 0))) (con (.int 0)))) (thenS (setS 2 (pl (op2 modD (op2 ixD (get 0) (con (.int 0))) (get 1))))
    (thenS (setIx 0 (op2 divD (op2 ixD (get 0) (con (.int 0))) (get 1)) (con (.int 0)))
    (retS (pl (get 2))))) nxt)
    (thenS (ifS (tb1 (op2 gtD (get 1) (op2 powD (con (.int 10)) (con (.int 7))))) (retS (pl (op2 modD (op2 addD (fz (callB 0 rec (acons (op2 powD (con (.int 10)) (con (.int 7))) anil))) (op2 mulD (op2 powD (con (.int 10)) (con (.int 7))) (fz (callB 0 rec (acons (op2 addD (op2 divD (get 1) (op2 powD (con (.int 10)) (con (.int 7)))) (con (.int 1))) anil))))) (get 1)))) nxt)
    (thenS (setIx 0 (op2 addD (op2 ixD (get 0) (con (.int 2))) (con (.int 1))) (con (.int 2)))
    (thenS (setS 3 (pl (op2 modD (op2 mulD (op2 addD (op2 ixD (get 0) (con (.int 1))) (op2 mulD (con (.int 48271)) (op2 ixD (get 0) (con (.int 2))))) (op2 addD (con (.int 39373)) (op2 ixD (get 0) (con (.int 2))))) (con (.int 2147483647)))))
    (thenS (setS 4 (pl (op2 modD (op2 mulD (op2 addD (op2 addD (get 3) (op2 ixD (get 0) (con (.int 2)))) (op2 divD (op2 ixD (get 0) (con (.int 1))) (con (.int 1000003)))) (op2 addD (op2 modD (get 3) (con (.int 40009))) (con (.int 7)))) (con (.int 2147483629)))))
    (retS (pl (op2 modD (op2 divD (op2 modD (op2 addD (op2 mulD (get 4) (con (.int 48271))) (get 3)) (con (.int 2147483587))) (con (.int 64))) (get 1)))))))))
def F_take : Nat → List PyData → List PyData → Option (Wv × List PyData)
  | 0 => fun _ _ => none
  | n + 1 => runB 2 5 (f_take (F_take n))
section
variable {P : Program} {w : World} {K : PySem.W.Frag} {mg : Str → Option Value} {base : Heap} {f : Addr} {fd : FuncData}
theorem dk_take (F : Fun K "_law_take" "_law_take" S_take f fd)  (b : Binds K fd P_take []) (m : mg "_law_take" = some (.ref f)) (B : Blt mg) : ∀ n, FnOk P w K mg base CX0 (0 + n) f fd P_take (spB K (F_take n))
  | 0 => ⟨fun vs H Q E h => (vacB h).elim, fun A outer s H args us vs Q E hr he hb hv h => (vacB h).elim⟩
  | n + 1 => by
    have G := dk_take F  b m B n
    refine F.ok sc_take (fun vs H Q E h => lenB h) (fun cdv A outer s H vs Q E hr h => ⟨_, (Evl.pss_cut (ps_if (pt_cmpR op_gt (pe_ix (k_ix (K := K) rfl) (pv 0) pe_int (fun _ _ => rfl)) pe_int (nomark _)) (Evl.pss_cut (ps_set (i := 2) sc_take.nd rfl (by first | exact Or.inl rfl | exact Or.inr rfl) (pe_op op_mod (pe_ix (k_ix (K := K) rfl) (pv 0) pe_int (fun _ _ => rfl)) (pv 1)))
      (Evl.pss_cut (ps_asg (pe_op op_fdiv (pe_ix (k_ix (K := K) rfl) (pv 0) pe_int (fun _ _ => rfl)) (pv 1)) (pg_sub (pv 0) pe_int set_list))
      (pss_one (ps_ret (pv 2))))) pss_nil)
      (Evl.pss_cut (ps_if (pt_cmpR op_gt (pv 1) (pe_op op_pow pe_int pe_int) (nomark _)) (pss_one (ps_ret (pe_op op_mod (pe_op op_add (pe_call G hr rfl m F.kp b .nil pass0 (pa_cons (pv 0) (pa_cons (pe_op op_pow pe_int pe_int) pa_nil))) (pe_op op_mul (pe_op op_pow pe_int pe_int) (pe_call G hr rfl m F.kp b .nil pass0 (pa_cons (pv 0) (pa_cons (pe_op op_add (pe_op op_fdiv (pv 1) (pe_op op_pow pe_int pe_int)) pe_int) pa_nil))))) (pv 1)))) pss_nil)
      (Evl.pss_cut (ps_asg (pe_op op_add (pe_ix (k_ix (K := K) rfl) (pv 0) pe_int (fun _ _ => rfl)) pe_int) (pg_sub (pv 0) pe_int set_list))
      (Evl.pss_cut (ps_set (i := 3) sc_take.nd rfl (by first | exact Or.inl rfl | exact Or.inr rfl) (pe_op op_mod (pe_op op_mul (pe_op op_add (pe_ix (k_ix (K := K) rfl) (pv 0) pe_int (fun _ _ => rfl)) (pe_op op_mul pe_int (pe_ix (k_ix (K := K) rfl) (pv 0) pe_int (fun _ _ => rfl)))) (pe_op op_add pe_int (pe_ix (k_ix (K := K) rfl) (pv 0) pe_int (fun _ _ => rfl)))) pe_int))
      (Evl.pss_cut (ps_set (i := 4) sc_take.nd rfl (by first | exact Or.inl rfl | exact Or.inr rfl) (pe_op op_mod (pe_op op_mul (pe_op op_add (pe_op op_add (pv 3) (pe_ix (k_ix (K := K) rfl) (pv 0) pe_int (fun _ _ => rfl))) (pe_op op_fdiv (pe_ix (k_ix (K := K) rfl) (pv 0) pe_int (fun _ _ => rfl)) pe_int)) (pe_op op_add (pe_op op_mod (pv 3) pe_int) pe_int)) pe_int))
      (pss_one (ps_ret (pe_op op_mod (pe_op op_fdiv (pe_op op_mod (pe_op op_add (pe_op op_mul (pv 4) pe_int) (pv 3)) pe_int) pe_int) (pv 1))))))))), ?_⟩)
    exact finB (N := N_take) (by unfold f_take; exact (OkS.cut (OkS.ife (OkT.test (OkE.op ok_gt (OkE.op ok_ix (OkE.var 0) (OkE.con fun _ => .int _)) (OkE.con fun _ => .int _))) (OkS.cut (OkS.set (fun _ => by decide) (OkE.w (OkE.op ok_mod (OkE.op ok_ix (OkE.var 0) (OkE.con fun _ => .int _)) (OkE.var 1))))
      (OkS.cut (OkS.setIx (OkE.op ok_div (OkE.op ok_ix (OkE.var 0) (OkE.con fun _ => .int _)) (OkE.var 1)) (OkE.con fun _ => .int _))
      (OkS.ret (OkE.w (OkE.var 2))))) OkS.nil)
      (OkS.cut (OkS.ife (OkT.test (OkE.op ok_gt (OkE.var 1) (OkE.op ok_pow (OkE.con fun _ => .int _) (OkE.con fun _ => .int _)))) (OkS.ret (OkE.w (OkE.op ok_mod (OkE.op ok_add (OkW.e (OkW.callB (OkA.cons (OkE.op ok_pow (OkE.con fun _ => .int _) (OkE.con fun _ => .int _)) OkA.nil))) (OkE.op ok_mul (OkE.op ok_pow (OkE.con fun _ => .int _) (OkE.con fun _ => .int _)) (OkW.e (OkW.callB (OkA.cons (OkE.op ok_add (OkE.op ok_div (OkE.var 1) (OkE.op ok_pow (OkE.con fun _ => .int _) (OkE.con fun _ => .int _))) (OkE.con fun _ => .int _)) OkA.nil))))) (OkE.var 1)))) OkS.nil)
      (OkS.cut (OkS.setIx (OkE.op ok_add (OkE.op ok_ix (OkE.var 0) (OkE.con fun _ => .int _)) (OkE.con fun _ => .int _)) (OkE.con fun _ => .int _))
      (OkS.cut (OkS.set (fun _ => by decide) (OkE.w (OkE.op ok_mod (OkE.op ok_mul (OkE.op ok_add (OkE.op ok_ix (OkE.var 0) (OkE.con fun _ => .int _)) (OkE.op ok_mul (OkE.con fun _ => .int _) (OkE.op ok_ix (OkE.var 0) (OkE.con fun _ => .int _)))) (OkE.op ok_add (OkE.con fun _ => .int _) (OkE.op ok_ix (OkE.var 0) (OkE.con fun _ => .int _)))) (OkE.con fun _ => .int _))))
      (OkS.cut (OkS.set (fun _ => by decide) (OkE.w (OkE.op ok_mod (OkE.op ok_mul (OkE.op ok_add (OkE.op ok_add (OkE.var 3) (OkE.op ok_ix (OkE.var 0) (OkE.con fun _ => .int _))) (OkE.op ok_div (OkE.op ok_ix (OkE.var 0) (OkE.con fun _ => .int _)) (OkE.con fun _ => .int _))) (OkE.op ok_add (OkE.op ok_mod (OkE.var 3) (OkE.con fun _ => .int _)) (OkE.con fun _ => .int _))) (OkE.con fun _ => .int _))))
      (OkS.ret (OkE.w (OkE.op ok_mod (OkE.op ok_div (OkE.op ok_mod (OkE.op ok_add (OkE.op ok_mul (OkE.var 4) (OkE.con fun _ => .int _)) (OkE.var 3)) (OkE.con fun _ => .int _)) (OkE.con fun _ => .int _)) (OkE.var 1)))))))))) h
end
def f_of : M Fl :=
    (retS (pl (op2 ixD (get 1) (fz (callB 0 (F_take 2) (acons (cb lenD (acons (get 1) anil)) anil))))))
def F_of : List PyData → List PyData → Option (Wv × List PyData) := runB 2 2 f_of
section
variable {P : Program} {w : World} {K : PySem.W.Frag} {mg : Str → Option Value} {base : Heap} {f : Addr} {fd : FuncData}
theorem dk_of (F : Fun K "_law_of" "_law_of" S_of f fd) {g_take : Addr} {d_take : FuncData} (G_take : FnOk P w K mg base CX0 2 g_take d_take P_take (spB K (F_take 2))) (b_take : Binds K d_take P_take []) (k_take : PySem.W.keepIn K (.ref g_take) = true) (m_take : mg "_law_take" = some (.ref g_take)) (B : Blt mg) : FnOk P w K mg base CX0 3 f fd P_of (spB K F_of) := by
  refine F.ok sc_of (fun vs H Q E h => lenB h) (fun cdv A outer s H vs Q E hr h => ⟨_, (pss_one (ps_ret (pe_ix (k_ix (K := K) rfl) (pv 1) (pe_call G_take (hr.mono (by decide)) rfl m_take k_take b_take .nil pass0 (pa_cons (pv 0) (pa_cons (pe_callB (k_len (K := K) rfl) rfl B.len PySem.boot_len (pa_cons (pv 1) pa_nil)) pa_nil))) (fun _ _ => rfl)))), ?_⟩)
  exact finB (N := N_of) (by unfold f_of; exact (OkS.ret (OkE.w (OkE.op ok_ix (OkE.var 1) (OkW.e (OkW.callB (OkA.cons (OkE.cb ok_len (OkA.cons (OkE.var 1) OkA.nil)) OkA.nil))))))) h
end
def s_strewn_0 : M Fl :=
    (parS 2 3 (listW (acons (get 1) anil)) (lstW anil))
def s_strewn_1 : M Fl :=
    (whileM (tb1 (op2 (eqvD true) (get 2) (lstD anil))) (exprS (mthE 3 appD (acons (mthE 2 popD (acons (fz (callB 0 (F_take 2) (acons (cb lenD (acons (get 2) anil)) anil))) anil)) anil))) 100)
def s_strewn_2 : M Fl :=
    (moveS 3)
def f_strewn : M Fl :=
    (thenS s_strewn_0 (thenS s_strewn_1 s_strewn_2))
def F_strewn : List PyData → List PyData → Option (Wv × List PyData) := runB 2 4 f_strewn
section
variable {P : Program} {w : World} {K : PySem.W.Frag} {mg : Str → Option Value} {base : Heap} {f : Addr} {fd : FuncData}
theorem dk_strewn (F : Fun K "_law_strewn" "_law_strewn" S_strewn f fd) {g_take : Addr} {d_take : FuncData} (G_take : FnOk P w K mg base CX0 2 g_take d_take P_take (spB K (F_take 2))) (b_take : Binds K d_take P_take []) (k_take : PySem.W.keepIn K (.ref g_take) = true) (m_take : mg "_law_take" = some (.ref g_take)) (B : Blt mg) : FnOk P w K mg base CX0 3 f fd P_strewn (spB K F_strewn) := by
  refine F.ok sc_strewn (fun vs H Q E h => lenB h) (fun cdv A outer s H vs Q E hr h => ⟨_, (Evl.pss_cut (ps_par (i := 2) (j := 3) rfl sc_strewn.nd rfl rfl (by decide) rfl rfl (pa_cons (pe_callTy (k_list (K := K) rfl) rfl B.list (by decide +kernel) (pa_cons (pv 1) pa_nil)) (pa_cons (pe_lst pa_nil) pa_nil)) rfl)
      (Evl.pss_cut (ps_while PassesOwn.never (pt_cmpR (k_neD (K := K) rfl hr.units) (pv 2) (pe_lst pa_nil) (nomark _))
      (pss_one (ps_expr (k_bm (K := K) rfl PySem.F.plainAttrs_list PySem.F.slot_list_append PySem.F.type_list_append mt_append (pv 3) (pa_cons (k_bm (K := K) rfl PySem.F.plainAttrs_list PySem.F.slot_list_pop PySem.F.type_list_pop mt_popAt (pv 2) (pa_cons (pe_call G_take (hr.mono (by decide)) rfl m_take k_take b_take .nil pass0 (pa_cons (pv 0) (pa_cons (pe_callB (k_len (K := K) rfl) rfl B.len PySem.boot_len (pa_cons (pv 2) pa_nil)) pa_nil))) pa_nil)) pa_nil)))))
      (pss_one (ps_ret (pv 3))))), ?_⟩)
  exact finB (N := N_strewn) (by unfold f_strewn s_strewn_2 s_strewn_1 s_strewn_0; exact (OkS.cut (OkS.par (fun _ => ⟨by decide, by decide⟩) (OkW.list (OkA.cons (OkE.var 1) OkA.nil)) (OkW.lst OkA.nil))
      (OkS.cut (OkS.while 100 (OkT.test (OkE.op ok_neD (OkE.var 2) (OkE.lst OkA.nil))) (OkS.expr (OkE.mth ok_app (OkA.cons (OkE.mth ok_pop (OkA.cons (OkW.e (OkW.callB (OkA.cons (OkE.cb ok_len (OkA.cons (OkE.var 2) OkA.nil)) OkA.nil))) OkA.nil)) OkA.nil))))
      (OkS.move 3)))) h
end
def s_souls_0 : M Fl :=
    (parS 2 3 dnew (pl (fz (callB 0 F_of (acons (lstD (acons (get 1) (acons (op2 addD (op2 mulD (con (.int 3)) (get 1)) (con (.int 1))) (acons (op2 powD (con (.int 10)) (con (.int 9))) anil)))) anil)))))
def b_souls_1 : M Fl :=
    (thenS (setS 5 (pl (op2 addD (con (.int 1)) (fz (callB 0 (F_take 2) (acons (cb maxD (acons (con (.int 1)) (acons (get 3) anil))) anil))))))
    (thenS (whileM (dinT false 2 (get 5)) (setS 5 (pl (op2 addD (op2 modD (get 5) (cb maxD (acons (get 3) (acons (get 1) anil)))) (con (.int 1))))) 100)
    (dputS 2 (get 5))))
def s_souls_1 : M Fl :=
    (forS (argI rngD (acons (get 1) anil)) (gN 4) b_souls_1)
def s_souls_2 : M Fl :=
    (retS (pl (sortDct 2)))
def f_souls : M Fl :=
    (thenS s_souls_0 (thenS s_souls_1 s_souls_2))
def F_souls : List PyData → List PyData → Option (Wv × List PyData) := runB 2 6 f_souls
section
variable {P : Program} {w : World} {K : PySem.W.Frag} {mg : Str → Option Value} {base : Heap} {f : Addr} {fd : FuncData}
theorem dk_souls (F : Fun K "_law_souls" "_law_souls" S_souls f fd) {g_take : Addr} {d_take : FuncData} (G_take : FnOk P w K mg base CX0 2 g_take d_take P_take (spB K (F_take 2))) (b_take : Binds K d_take P_take []) (k_take : PySem.W.keepIn K (.ref g_take) = true) (m_take : mg "_law_take" = some (.ref g_take)) {g_of : Addr} {d_of : FuncData} (G_of : FnOk P w K mg base CX0 3 g_of d_of P_of (spB K F_of)) (b_of : Binds K d_of P_of []) (k_of : PySem.W.keepIn K (.ref g_of) = true) (m_of : mg "_law_of" = some (.ref g_of)) (B : Blt mg) : FnOk P w K mg base CX0 4 f fd P_souls (spB K F_souls) := by
  refine F.ok sc_souls (fun vs H Q E h => lenB h) (fun cdv A outer s H vs Q E hr h => ⟨_, (Evl.pss_cut (ps_par (i := 2) (j := 3) rfl sc_souls.nd rfl rfl (by decide) rfl rfl (pa_cons pe_dnewK (pa_cons (pe_call G_of (hr.mono (by decide)) rfl m_of k_of b_of .nil pass0 (pa_cons (pv 0) (pa_cons (pe_lst (pa_cons (pv 1) (pa_cons (pe_op op_add (pe_op op_mul pe_int (pv 1)) pe_int) (pa_cons (pe_op op_pow pe_int pe_int) pa_nil)))) pa_nil))) pa_nil)) rfl)
      (Evl.pss_cut (ps_for PassesOwn.never rfl (pi_range1 rfl B.range (pa_cons (pv 1) pa_nil)) (pg_name (i := 4) sc_souls.nd rfl (by first | exact Or.inl rfl | exact Or.inr rfl))
      (Evl.pss_cut (ps_set (i := 5) sc_souls.nd rfl (by first | exact Or.inl rfl | exact Or.inr rfl) (pe_op op_add pe_int (pe_call G_take (hr.mono (by decide)) rfl m_take k_take b_take .nil pass0 (pa_cons (pv 0) (pa_cons (pe_callB (call_max2 rfl) rfl B.max (by decide +kernel) (pa_cons pe_int (pa_cons (pv 3) pa_nil))) pa_nil)))))
      (Evl.pss_cut (ps_while PassesOwn.never (pt_cmp (pc_din (hu_of hr) (pv 5) (pv 2)))
      (pss_one (ps_set (i := 5) sc_souls.nd rfl (by first | exact Or.inl rfl | exact Or.inr rfl) (pe_op op_add (pe_op op_mod (pv 5) (pe_callB (call_max2 rfl) rfl B.max (by decide +kernel) (pa_cons (pv 3) (pa_cons (pv 1) pa_nil)))) pe_int))))
      (pss_one (ps_dput (hu_of hr) (pv 2) (pv 5) pe_bl rfl)))))
      (pss_one (ps_ret (pe_callB (call_sortedDI rfl) rfl B.sorted (by decide +kernel) (pa_cons (pv 2) pa_nil)))))), ?_⟩)
  exact finB (N := N_souls) (by unfold f_souls s_souls_2 s_souls_1 b_souls_1 s_souls_0; exact (OkS.cut (OkS.par (fun _ => ⟨by decide, by decide⟩) OkW.dnew (OkE.w (OkW.e (OkW.callB (OkA.cons (OkE.lst (OkA.cons (OkE.var 1) (OkA.cons (OkE.op ok_add (OkE.op ok_mul (OkE.con fun _ => .int _) (OkE.var 1)) (OkE.con fun _ => .int _)) (OkA.cons (OkE.op ok_pow (OkE.con fun _ => .int _) (OkE.con fun _ => .int _)) OkA.nil)))) OkA.nil)))))
      (OkS.cut (OkS.for (OkI.range1 (OkA.cons (OkE.var 1) OkA.nil)) (OkG.name 4) (fun _ => by decide) (OkS.cut (OkS.set (fun _ => by decide) (OkE.w (OkE.op ok_add (OkE.con fun _ => .int _) (OkW.e (OkW.callB (OkA.cons (OkE.cb ok_max (OkA.cons (OkE.con fun _ => .int _) (OkA.cons (OkE.var 3) OkA.nil))) OkA.nil))))))
      (OkS.cut (OkS.while 100 (OkT.din (OkE.var 5)) (OkS.set (fun _ => by decide) (OkE.w (OkE.op ok_add (OkE.op ok_mod (OkE.var 5) (OkE.cb ok_max (OkA.cons (OkE.var 3) (OkA.cons (OkE.var 1) OkA.nil)))) (OkE.con fun _ => .int _)))))
      (OkS.dput (OkE.var 5)))))
      (OkS.ret (OkE.w OkE.sortDct))))) h
end
def f_code_of : M Fl :=
    (retS (pl (rmE idxD (fz (lcW (seqI (get 0)) (gN 2) (tb1 (op2 geD (get 2) (get 1))) (get 2) [2])) (acons (get 1) anil))))
def F_code_of : List PyData → Option Wv := runA 2 3 f_code_of
section
variable {P : Program} {w : World} {K : PySem.W.Frag} {mg : Str → Option Value} {base : Heap} {f : Addr} {fd : FuncData}
theorem dk_code_of (F : Fun K "code_of" "code_of" S_code_of f fd)  (B : Blt mg) : FnOk P w K mg base CX0 1 f fd P_code_of (spA K F_code_of) := by
  refine F.ok sc_code_of (fun vs H Q E h => lenA h) (fun cdv A outer s H vs Q E hr h => ⟨_, (pss_one (ps_ret (k_bm (K := K) rfl PySem.F.plainAttrs_list PySem.F.slot_list_index PySem.F.type_list_index (k_index (K := K) rfl (units65 hr)) (pe_lc (own := [("other", 2)]) (g := (gName 2)) rfl sc_code_of.nd (k_seq (K := K) rfl (pv 0)) (blkOk_by (own := [("other", 2)]) (N := ["row", "height", "other"]) (sc := defScope S_code_of) (by decide +kernel)) (fun _ _ _ _ _ => by exact (pg_name (i := 2) sc_code_of.nd rfl (by first | exact Or.inl rfl | exact Or.inr rfl))) (fun _ _ _ _ _ => (pts_one (pt_cmpR op_ge (pv 2) (pv 1) (nomark _)))) (fun _ _ _ _ _ => (pv 2))) (pa_cons (pv 1) pa_nil)))), ?_⟩)
  exact finA (N := N_code_of) (by unfold f_code_of; exact (OkS.ret (OkE.w (OkE.rm ok_idx (OkW.e (OkW.lc (vs := [2]) (OkI.seq (OkE.var 0)) (OkG.name 2) (by decide) (OkT.test (OkE.op ok_ge (OkE.var 2) (OkE.var 1))) (OkE.var 2))) (OkA.cons (OkE.var 1) OkA.nil))))) h
end
def f_codes : M Fl :=
    (retS (pl (cb tupleD (acons (fz (lcW (seqI (cb sortD (acons (get 0) anil))) (gN 1) yesT (fz (callA F_code_of (acons (get 0) (acons (get 1) anil)))) [1])) anil))))
def F_codes : List PyData → Option Wv := runA 1 2 f_codes
section
variable {P : Program} {w : World} {K : PySem.W.Frag} {mg : Str → Option Value} {base : Heap} {f : Addr} {fd : FuncData}
theorem dk_codes (F : Fun K "codes" "codes" S_codes f fd) {g_code_of : Addr} {d_code_of : FuncData} (G_code_of : FnOk P w K mg base CX0 1 g_code_of d_code_of P_code_of (spA K F_code_of)) (b_code_of : Binds K d_code_of P_code_of []) (k_code_of : PySem.W.keepIn K (.ref g_code_of) = true) (m_code_of : mg "code_of" = some (.ref g_code_of)) (B : Blt mg) : FnOk P w K mg base CX0 2 f fd P_codes (spA K F_codes) := by
  refine F.ok sc_codes (fun vs H Q E h => lenA h) (fun cdv A outer s H vs Q E hr h => ⟨_, (pss_one (ps_ret (pe_callTy (k_tup (K := K) rfl) rfl B.tuple (by decide +kernel) (pa_cons (pe_lc (own := [("height", 1)]) (g := (gName 1)) rfl sc_codes.nd (k_seq (K := K) rfl (pe_callB (k_sorted (K := K) rfl) rfl B.sorted (by decide +kernel) (pa_cons (pv 0) pa_nil))) (blkOk_by (own := [("height", 1)]) (N := ["row", "height"]) (sc := defScope S_codes) (by decide +kernel)) (fun _ _ _ _ _ => by exact (pg_name (i := 1) sc_codes.nd rfl (by first | exact Or.inl rfl | exact Or.inr rfl))) (fun _ _ _ _ _ => pts_nil) (fun _ _ _ _ _ => (pe_call G_code_of (hr.mono (by decide)) rfl m_code_of k_code_of b_code_of .nil pass0 (pa_cons (pv 0) (pa_cons (pv 1) pa_nil))))) pa_nil)))), ?_⟩)
  exact finA (N := N_codes) (by unfold f_codes; exact (OkS.ret (OkE.w (OkE.cb ok_tuple (OkA.cons (OkW.e (OkW.lc (vs := [1]) (OkI.seq (OkE.cb ok_sort (OkA.cons (OkE.var 0) OkA.nil))) (OkG.name 1) (by decide) OkT.yes (OkW.e (OkW.call (OkA.cons (OkE.var 0) (OkA.cons (OkE.var 1) OkA.nil)))))) OkA.nil))))) h
end
def s_row_with_0 : M Fl :=
    (setS 2 (lstW anil))
def b_row_with_1 : M Fl :=
    (exprS (mthE 2 insD (acons (get 4) (acons (get 3) anil))))
def s_row_with_1 : M Fl :=
    (forS (revI (lzE (acons (cb sortD (acons (get 0) anil)) (acons (get 1) anil)))) (gT (gsC (gN 3) (gsC (gN 4) gsN))) b_row_with_1)
def s_row_with_2 : M Fl :=
    (retS (pl (cb tupleD (acons (get 2) anil))))
def f_row_with : M Fl :=
    (thenS s_row_with_0 (thenS s_row_with_1 s_row_with_2))
def F_row_with : List PyData → Option Wv := runA 2 5 f_row_with
section
variable {P : Program} {w : World} {K : PySem.W.Frag} {mg : Str → Option Value} {base : Heap} {f : Addr} {fd : FuncData}
theorem dk_row_with (F : Fun K "row_with" "row_with" S_row_with f fd)  (B : Blt mg) : FnOk P w K mg base CX0 1 f fd P_row_with (spA K F_row_with) := by
  refine F.ok sc_row_with (fun vs H Q E h => lenA h) (fun cdv A outer s H vs Q E hr h => ⟨_, (Evl.pss_cut (ps_set (i := 2) sc_row_with.nd rfl (by first | exact Or.inl rfl | exact Or.inr rfl) (pe_lst pa_nil))
      (Evl.pss_cut (ps_for PassesOwn.never rfl (k_rev (K := K) rfl rfl B.reversed (k_LZ (K := K) rfl rfl rfl B.list rfl B.zip (pa_cons (pe_callB (k_sorted (K := K) rfl) rfl B.sorted (by decide +kernel) (pa_cons (pv 0) pa_nil)) (pa_cons (pv 1) pa_nil)))) (pg_tup rfl (pgs_cons (pg_name (i := 3) sc_row_with.nd rfl (by first | exact Or.inl rfl | exact Or.inr rfl)) (pgs_cons (pg_name (i := 4) sc_row_with.nd rfl (by first | exact Or.inl rfl | exact Or.inr rfl)) pgs_nil)))
      (pss_one (ps_expr (k_bm (K := K) rfl PySem.F.plainAttrs_list PySem.F.slot_list_insert PySem.F.type_list_insert mt_insert (pv 2) (pa_cons (pv 4) (pa_cons (pv 3) pa_nil))))))
      (pss_one (ps_ret (pe_callTy (k_tup (K := K) rfl) rfl B.tuple (by decide +kernel) (pa_cons (pv 2) pa_nil)))))), ?_⟩)
  exact finA (N := N_row_with) (by unfold f_row_with s_row_with_2 s_row_with_1 b_row_with_1 s_row_with_0; exact (OkS.cut (OkS.set (fun z => by cases z) (OkW.lst OkA.nil))
      (OkS.cut (OkS.for (OkI.rev (OkE.LZ (OkA.cons (OkE.cb ok_sort (OkA.cons (OkE.var 0) OkA.nil)) (OkA.cons (OkE.var 1) OkA.nil)))) (OkG.tup (OkGs.cons (OkG.name 3) (OkGs.cons (OkG.name 4) OkGs.nil))) (fun z => by cases z) (OkS.expr (OkE.mth ok_ins (OkA.cons (OkE.var 4) (OkA.cons (OkE.var 3) OkA.nil)))))
      (OkS.ret (OkE.w (OkE.cb ok_tuple (OkA.cons (OkE.var 2) OkA.nil))))))) h
end
def f_first_intervals : M Fl :=
    (retS (pl (fz (lcW (argI rngD (acons (get 0) anil)) (gN 1) yesT (tupD (acons (get 1) (acons (get 1) anil))) [1]))))
def F_first_intervals : List PyData → Option Wv := runA 1 2 f_first_intervals
section
variable {P : Program} {w : World} {K : PySem.W.Frag} {mg : Str → Option Value} {base : Heap} {f : Addr} {fd : FuncData}
theorem dk_first_intervals (F : Fun K "first_intervals" "first_intervals" S_first_intervals f fd)  (B : Blt mg) : FnOk P w K mg base CX0 1 f fd P_first_intervals (spA K F_first_intervals) := by
  refine F.ok sc_first_intervals (fun vs H Q E h => lenA h) (fun cdv A outer s H vs Q E hr h => ⟨_, (pss_one (ps_ret (pe_lc (own := [("index", 1)]) (g := (gName 1)) rfl sc_first_intervals.nd (pi_range1 rfl B.range (pa_cons (pv 0) pa_nil)) (blkOk_by (own := [("index", 1)]) (N := ["many", "index"]) (sc := defScope S_first_intervals) (by decide +kernel)) (fun _ _ _ _ _ => by exact (pg_name (i := 1) sc_first_intervals.nd rfl (by first | exact Or.inl rfl | exact Or.inr rfl))) (fun _ _ _ _ _ => pts_nil) (fun _ _ _ _ _ => (pe_tup (pa_cons (pv 1) (pa_cons (pv 1) pa_nil))))))), ?_⟩)
  exact finA (N := N_first_intervals) (by unfold f_first_intervals; exact (OkS.ret (OkE.w (OkW.e (OkW.lc (vs := [1]) (OkI.range1 (OkA.cons (OkE.var 0) OkA.nil)) (OkG.name 1) (by decide) OkT.yes (OkE.tup (OkA.cons (OkE.var 1) (OkA.cons (OkE.var 1) OkA.nil)))))))) h
end
def s_run_size_0 : M Fl :=
    (unS (gT (gsC (gN 1) (gsC (gN 2) gsN))) (get 0))
def s_run_size_1 : M Fl :=
    (retS (pl (op2 addD (op2 subD (get 2) (get 1)) (con (.int 1)))))
def f_run_size : M Fl :=
    (thenS s_run_size_0 s_run_size_1)
def F_run_size : List PyData → Option Wv := runA 1 3 f_run_size
section
variable {P : Program} {w : World} {K : PySem.W.Frag} {mg : Str → Option Value} {base : Heap} {f : Addr} {fd : FuncData}
theorem dk_run_size (F : Fun K "run_size" "run_size" S_run_size f fd)  (B : Blt mg) : FnOk P w K mg base CX0 1 f fd P_run_size (spA K F_run_size) := by
  refine F.ok sc_run_size (fun vs H Q E h => lenA h) (fun cdv A outer s H vs Q E hr h => ⟨_, (Evl.pss_cut (ps_asg (pv 0) (pg_tup rfl (pgs_cons (pg_name (i := 1) sc_run_size.nd rfl (by first | exact Or.inl rfl | exact Or.inr rfl)) (pgs_cons (pg_name (i := 2) sc_run_size.nd rfl (by first | exact Or.inl rfl | exact Or.inr rfl)) pgs_nil))))
      (pss_one (ps_ret (pe_op op_add (pe_op op_sub (pv 2) (pv 1)) pe_int)))), ?_⟩)
  exact finA (N := N_run_size) (by unfold f_run_size s_run_size_1 s_run_size_0; exact (OkS.cut (OkS.unpack (OkG.tup (OkGs.cons (OkG.name 1) (OkGs.cons (OkG.name 2) OkGs.nil))) (fun z => by cases z) (OkE.var 0))
      (OkS.ret (OkE.w (OkE.op ok_add (OkE.op ok_sub (OkE.var 2) (OkE.var 1)) (OkE.con fun _ => .int _)))))) h
end
def f_run_index : M Fl :=
    (retS (pl (cb lenD (acons (fz (lcW (seqI (get 0)) (gT (gsC (gN 2) (gsC (gN 3) gsN))) (tb1 (op2 ltD (get 3) (get 1))) (get 3) [2, 3])) anil))))
def F_run_index : List PyData → Option Wv := runA 2 4 f_run_index
section
variable {P : Program} {w : World} {K : PySem.W.Frag} {mg : Str → Option Value} {base : Heap} {f : Addr} {fd : FuncData}
theorem dk_run_index (F : Fun K "run_index" "run_index" S_run_index f fd)  (B : Blt mg) : FnOk P w K mg base CX0 1 f fd P_run_index (spA K F_run_index) := by
  refine F.ok sc_run_index (fun vs H Q E h => lenA h) (fun cdv A outer s H vs Q E hr h => ⟨_, (pss_one (ps_ret (pe_callB (k_len (K := K) rfl) rfl B.len PySem.boot_len (pa_cons (pe_lc (own := [("first", 2), ("last", 3)]) (g := (gTup K 2 (gCons (gName 2) (gCons (gName 3) gNil)))) rfl sc_run_index.nd (k_seq (K := K) rfl (pv 0)) (blkOk_by (own := [("first", 2), ("last", 3)]) (N := ["intervals", "code", "first", "last"]) (sc := defScope S_run_index) (by decide +kernel)) (fun _ _ _ _ _ => by exact (pg_tup rfl (pgs_cons (pg_name (i := 2) sc_run_index.nd rfl (by first | exact Or.inl rfl | exact Or.inr rfl)) (pgs_cons (pg_name (i := 3) sc_run_index.nd rfl (by first | exact Or.inl rfl | exact Or.inr rfl)) pgs_nil)))) (fun _ _ _ _ _ => (pts_one (pt_cmpR op_lt (pv 3) (pv 1) (nomark _)))) (fun _ _ _ _ _ => (pv 3))) pa_nil)))), ?_⟩)
  exact finA (N := N_run_index) (by unfold f_run_index; exact (OkS.ret (OkE.w (OkE.cb ok_len (OkA.cons (OkW.e (OkW.lc (vs := [2, 3]) (OkI.seq (OkE.var 0)) (OkG.tup (OkGs.cons (OkG.name 2) (OkGs.cons (OkG.name 3) OkGs.nil))) (by decide) (OkT.test (OkE.op ok_lt (OkE.var 3) (OkE.var 1))) (OkE.var 3))) OkA.nil))))) h
end
def s_next_intervals_0 : M Fl :=
    (setS 2 (pl (fz (callA F_run_index (acons (get 0) (acons (get 1) anil))))))
def s_next_intervals_1 : M Fl :=
    (setS 3 (pl (cb maxD (acons (op2 subD (get 2) (con (.int 1))) (acons (con (.int 0)) anil)))))
def s_next_intervals_2 : M Fl :=
    (setS 4 (pl (cb minD (acons (op2 addD (get 2) (con (.int 1))) (acons (op2 subD (cb lenD (acons (get 0) anil)) (con (.int 1))) anil)))))
def s_next_intervals_3 : M Fl :=
    (setS 5 (pl (tupD (acons (op2 ixD (op2 ixD (get 0) (get 3)) (con (.int 0))) (acons (op2 subD (op2 ixD (op2 ixD (get 0) (get 4)) (con (.int 1))) (con (.int 1))) anil)))))
def s_next_intervals_4 : M Fl :=
    (setS 6 (pl (fz (lcW (seqI (slD (get 0) (poS (op2 addD (get 4) (con (.int 1)))) poN)) (gT (gsC (gN 7) (gsC (gN 8) gsN))) yesT (tupD (acons (op2 subD (get 7) (con (.int 1))) (acons (op2 subD (get 8) (con (.int 1))) anil))) [7, 8]))))
def s_next_intervals_5 : M Fl :=
    (retS (pl (op2 catD (op2 catD (slD (get 0) poN (poS (get 3))) (lstD (acons (get 5) anil))) (get 6))))
def f_next_intervals : M Fl :=
    (thenS s_next_intervals_0 (thenS s_next_intervals_1 (thenS s_next_intervals_2 (thenS s_next_intervals_3 (thenS s_next_intervals_4 s_next_intervals_5)))))
def F_next_intervals : List PyData → Option Wv := runA 2 9 f_next_intervals
section
variable {P : Program} {w : World} {K : PySem.W.Frag} {mg : Str → Option Value} {base : Heap} {f : Addr} {fd : FuncData}
theorem dk_next_intervals (F : Fun K "next_intervals" "next_intervals" S_next_intervals f fd) {g_run_index : Addr} {d_run_index : FuncData} (G_run_index : FnOk P w K mg base CX0 1 g_run_index d_run_index P_run_index (spA K F_run_index)) (b_run_index : Binds K d_run_index P_run_index []) (k_run_index : PySem.W.keepIn K (.ref g_run_index) = true) (m_run_index : mg "run_index" = some (.ref g_run_index)) (B : Blt mg) : FnOk P w K mg base CX0 2 f fd P_next_intervals (spA K F_next_intervals) := by
  refine F.ok sc_next_intervals (fun vs H Q E h => lenA h) (fun cdv A outer s H vs Q E hr h => ⟨_, (Evl.pss_cut (ps_set (i := 2) sc_next_intervals.nd rfl (by first | exact Or.inl rfl | exact Or.inr rfl) (pe_call G_run_index (hr.mono (by decide)) rfl m_run_index k_run_index b_run_index .nil pass0 (pa_cons (pv 0) (pa_cons (pv 1) pa_nil))))
      (Evl.pss_cut (ps_set (i := 3) sc_next_intervals.nd rfl (by first | exact Or.inl rfl | exact Or.inr rfl) (pe_callB (call_max2 rfl) rfl B.max (by decide +kernel) (pa_cons (pe_op op_sub (pv 2) pe_int) (pa_cons pe_int pa_nil))))
      (Evl.pss_cut (ps_set (i := 4) sc_next_intervals.nd rfl (by first | exact Or.inl rfl | exact Or.inr rfl) (pe_callB (call_min2 rfl) rfl B.min (by decide +kernel) (pa_cons (pe_op op_add (pv 2) pe_int) (pa_cons (pe_op op_sub (pe_callB (k_len (K := K) rfl) rfl B.len PySem.boot_len (pa_cons (pv 0) pa_nil)) pe_int) pa_nil))))
      (Evl.pss_cut (ps_set (i := 5) sc_next_intervals.nd rfl (by first | exact Or.inl rfl | exact Or.inr rfl) (pe_tup (pa_cons (pe_ix (k_ix (K := K) rfl) (pe_ix (k_ix (K := K) rfl) (pv 0) (pv 3) (fun _ _ => rfl)) pe_int (fun _ _ => rfl)) (pa_cons (pe_op op_sub (pe_ix (k_ix (K := K) rfl) (pe_ix (k_ix (K := K) rfl) (pv 0) (pv 4) (fun _ _ => rfl)) pe_int (fun _ _ => rfl)) pe_int) pa_nil))))
      (Evl.pss_cut (by first | exact (ps_setLc (i := 6) (own := [("first", 7), ("last", 8)]) (g := (gTup K 2 (gCons (gName 7) (gCons (gName 8) gNil)))) rfl sc_next_intervals.nd rfl rfl (sw_true rfl rfl rfl (by decide +kernel)) (k_seq (K := K) rfl (pe_slice (k_cut (K := K) rfl) (pv 0) (po_some (pe_op op_add (pv 4) pe_int)) po_none)) (blkOk_by (own := [("first", 7), ("last", 8)]) (N := ["intervals", "code", "at", "left", "right", "united", "above", "first", "last"]) (sc := defScope S_next_intervals) (by decide +kernel)) (fun _ _ _ _ _ => by exact (pg_tup rfl (pgs_cons (pg_name (i := 7) sc_next_intervals.nd rfl (by first | exact Or.inl rfl | exact Or.inr rfl)) (pgs_cons (pg_name (i := 8) sc_next_intervals.nd rfl (by first | exact Or.inl rfl | exact Or.inr rfl)) pgs_nil)))) (fun _ _ _ _ _ => pts_nil) (fun _ _ _ _ _ => (pe_tup (pa_cons (pe_op op_sub (pv 7) pe_int) (pa_cons (pe_op op_sub (pv 8) pe_int) pa_nil))))) | exact (ps_set (i := 6) sc_next_intervals.nd rfl (by first | exact Or.inl rfl | exact Or.inr rfl) (pe_lc (own := [("first", 7), ("last", 8)]) (g := (gTup K 2 (gCons (gName 7) (gCons (gName 8) gNil)))) rfl sc_next_intervals.nd (k_seq (K := K) rfl (pe_slice (k_cut (K := K) rfl) (pv 0) (po_some (pe_op op_add (pv 4) pe_int)) po_none)) (blkOk_by (own := [("first", 7), ("last", 8)]) (N := ["intervals", "code", "at", "left", "right", "united", "above", "first", "last"]) (sc := defScope S_next_intervals) (by decide +kernel)) (fun _ _ _ _ _ => by exact (pg_tup rfl (pgs_cons (pg_name (i := 7) sc_next_intervals.nd rfl (by first | exact Or.inl rfl | exact Or.inr rfl)) (pgs_cons (pg_name (i := 8) sc_next_intervals.nd rfl (by first | exact Or.inl rfl | exact Or.inr rfl)) pgs_nil)))) (fun _ _ _ _ _ => pts_nil) (fun _ _ _ _ _ => (pe_tup (pa_cons (pe_op op_sub (pv 7) pe_int) (pa_cons (pe_op op_sub (pv 8) pe_int) pa_nil)))))))
      (pss_one (ps_ret (pe_op op_catL (pe_op op_catL (pe_slice (k_cut (K := K) rfl) (pv 0) po_none (po_some (pv 3))) (pe_lst (pa_cons (pv 5) pa_nil))) (pv 6))))))))), ?_⟩)
  exact finA (N := N_next_intervals) (by unfold f_next_intervals s_next_intervals_5 s_next_intervals_4 s_next_intervals_3 s_next_intervals_2 s_next_intervals_1 s_next_intervals_0; exact (OkS.cut (OkS.set (fun z => by cases z) (OkE.w (OkW.e (OkW.call (OkA.cons (OkE.var 0) (OkA.cons (OkE.var 1) OkA.nil))))))
      (OkS.cut (OkS.set (fun z => by cases z) (OkE.w (OkE.cb ok_max (OkA.cons (OkE.op ok_sub (OkE.var 2) (OkE.con fun _ => .int _)) (OkA.cons (OkE.con fun _ => .int _) OkA.nil)))))
      (OkS.cut (OkS.set (fun z => by cases z) (OkE.w (OkE.cb ok_min (OkA.cons (OkE.op ok_add (OkE.var 2) (OkE.con fun _ => .int _)) (OkA.cons (OkE.op ok_sub (OkE.cb ok_len (OkA.cons (OkE.var 0) OkA.nil)) (OkE.con fun _ => .int _)) OkA.nil)))))
      (OkS.cut (OkS.set (fun z => by cases z) (OkE.w (OkE.tup (OkA.cons (OkE.op ok_ix (OkE.op ok_ix (OkE.var 0) (OkE.var 3)) (OkE.con fun _ => .int _)) (OkA.cons (OkE.op ok_sub (OkE.op ok_ix (OkE.op ok_ix (OkE.var 0) (OkE.var 4)) (OkE.con fun _ => .int _)) (OkE.con fun _ => .int _)) OkA.nil)))))
      (OkS.cut (OkS.set (fun z => by cases z) (OkE.w (OkW.e (OkW.lc (vs := [7, 8]) (OkI.seq (OkE.sl (OkE.var 0) (OkP.some (OkE.op ok_add (OkE.var 4) (OkE.con fun _ => .int _))) OkP.none)) (OkG.tup (OkGs.cons (OkG.name 7) (OkGs.cons (OkG.name 8) OkGs.nil))) (by decide) OkT.yes (OkE.tup (OkA.cons (OkE.op ok_sub (OkE.var 7) (OkE.con fun _ => .int _)) (OkA.cons (OkE.op ok_sub (OkE.var 8) (OkE.con fun _ => .int _)) OkA.nil)))))))
      (OkS.ret (OkE.w (OkE.op ok_catL (OkE.op ok_catL (OkE.sl (OkE.var 0) OkP.none (OkP.some (OkE.var 3))) (OkE.lst (OkA.cons (OkE.var 5) OkA.nil))) (OkE.var 6)))))))))) h
end
def s_run_lists_0 : M Fl :=
    (setS 1 (lstW anil))
def s_run_lists_1 : M Fl :=
    (setS 2 (pl (fz (callA F_first_intervals (acons (cb lenD (acons (get 0) anil)) anil)))))
def b_run_lists_2 : M Fl :=
    (thenS (exprS (mthE 1 appD (acons (get 2) anil)))
    (setS 2 (pl (fz (callA F_next_intervals (acons (get 2) (acons (get 3) anil)))))))
def s_run_lists_2 : M Fl :=
    (forS (seqI (fz (callA F_codes (acons (get 0) anil)))) (gN 3) b_run_lists_2)
def s_run_lists_3 : M Fl :=
    (moveS 1)
def f_run_lists : M Fl :=
    (thenS s_run_lists_0 (thenS s_run_lists_1 (thenS s_run_lists_2 s_run_lists_3)))
def F_run_lists : List PyData → Option Wv := runA 1 4 f_run_lists
section
variable {P : Program} {w : World} {K : PySem.W.Frag} {mg : Str → Option Value} {base : Heap} {f : Addr} {fd : FuncData}
theorem dk_run_lists (F : Fun K "run_lists" "run_lists" S_run_lists f fd) {g_codes : Addr} {d_codes : FuncData} (G_codes : FnOk P w K mg base CX0 2 g_codes d_codes P_codes (spA K F_codes)) (b_codes : Binds K d_codes P_codes []) (k_codes : PySem.W.keepIn K (.ref g_codes) = true) (m_codes : mg "codes" = some (.ref g_codes)) {g_first_intervals : Addr} {d_first_intervals : FuncData} (G_first_intervals : FnOk P w K mg base CX0 1 g_first_intervals d_first_intervals P_first_intervals (spA K F_first_intervals)) (b_first_intervals : Binds K d_first_intervals P_first_intervals []) (k_first_intervals : PySem.W.keepIn K (.ref g_first_intervals) = true) (m_first_intervals : mg "first_intervals" = some (.ref g_first_intervals)) {g_next_intervals : Addr} {d_next_intervals : FuncData} (G_next_intervals : FnOk P w K mg base CX0 2 g_next_intervals d_next_intervals P_next_intervals (spA K F_next_intervals)) (b_next_intervals : Binds K d_next_intervals P_next_intervals []) (k_next_intervals : PySem.W.keepIn K (.ref g_next_intervals) = true) (m_next_intervals : mg "next_intervals" = some (.ref g_next_intervals)) (B : Blt mg) : FnOk P w K mg base CX0 3 f fd P_run_lists (spA K F_run_lists) := by
  refine F.ok sc_run_lists (fun vs H Q E h => lenA h) (fun cdv A outer s H vs Q E hr h => ⟨_, (Evl.pss_cut (ps_set (i := 1) sc_run_lists.nd rfl (by first | exact Or.inl rfl | exact Or.inr rfl) (pe_lst pa_nil))
      (Evl.pss_cut (ps_set (i := 2) sc_run_lists.nd rfl (by first | exact Or.inl rfl | exact Or.inr rfl) (pe_call G_first_intervals (hr.mono (by decide)) rfl m_first_intervals k_first_intervals b_first_intervals .nil pass0 (pa_cons (pe_callB (k_len (K := K) rfl) rfl B.len PySem.boot_len (pa_cons (pv 0) pa_nil)) pa_nil)))
      (Evl.pss_cut (ps_for PassesOwn.never rfl (k_seq (K := K) rfl (pe_call G_codes (hr.mono (by decide)) rfl m_codes k_codes b_codes .nil pass0 (pa_cons (pv 0) pa_nil))) (pg_name (i := 3) sc_run_lists.nd rfl (by first | exact Or.inl rfl | exact Or.inr rfl))
      (Evl.pss_cut (ps_expr (k_bm (K := K) rfl PySem.F.plainAttrs_list PySem.F.slot_list_append PySem.F.type_list_append mt_append (pv 1) (pa_cons (pv 2) pa_nil)))
      (pss_one (ps_set (i := 2) sc_run_lists.nd rfl (by first | exact Or.inl rfl | exact Or.inr rfl) (pe_call G_next_intervals (hr.mono (by decide)) rfl m_next_intervals k_next_intervals b_next_intervals .nil pass0 (pa_cons (pv 2) (pa_cons (pv 3) pa_nil)))))))
      (pss_one (ps_ret (pv 1)))))), ?_⟩)
  exact finA (N := N_run_lists) (by unfold f_run_lists s_run_lists_3 s_run_lists_2 b_run_lists_2 s_run_lists_1 s_run_lists_0; exact (OkS.cut (OkS.set (fun z => by cases z) (OkW.lst OkA.nil))
      (OkS.cut (OkS.set (fun z => by cases z) (OkE.w (OkW.e (OkW.call (OkA.cons (OkE.cb ok_len (OkA.cons (OkE.var 0) OkA.nil)) OkA.nil)))))
      (OkS.cut (OkS.for (OkI.seq (OkW.e (OkW.call (OkA.cons (OkE.var 0) OkA.nil)))) (OkG.name 3) (fun z => by cases z) (OkS.cut (OkS.expr (OkE.mth ok_app (OkA.cons (OkE.var 2) OkA.nil)))
      (OkS.set (fun z => by cases z) (OkE.w (OkW.e (OkW.call (OkA.cons (OkE.var 2) (OkA.cons (OkE.var 3) OkA.nil))))))))
      (OkS.move 1))))) h
end
def f_runs : M Fl :=
    (retS (pl (cb tupleD (acons (fz (lcW (argI zipM (acons (fz (callA F_run_lists (acons (get 0) anil))) (acons (fz (callA F_codes (acons (get 0) anil))) anil))) (gT (gsC (gN 1) (gsC (gN 2) gsN))) yesT (op2 ixD (get 1) (fz (callA F_run_index (acons (get 1) (acons (get 2) anil))))) [1, 2])) anil))))
def F_runs : List PyData → Option Wv := runA 1 3 f_runs
section
variable {P : Program} {w : World} {K : PySem.W.Frag} {mg : Str → Option Value} {base : Heap} {f : Addr} {fd : FuncData}
theorem dk_runs (F : Fun K "runs" "runs" S_runs f fd) {g_codes : Addr} {d_codes : FuncData} (G_codes : FnOk P w K mg base CX0 2 g_codes d_codes P_codes (spA K F_codes)) (b_codes : Binds K d_codes P_codes []) (k_codes : PySem.W.keepIn K (.ref g_codes) = true) (m_codes : mg "codes" = some (.ref g_codes)) {g_run_lists : Addr} {d_run_lists : FuncData} (G_run_lists : FnOk P w K mg base CX0 3 g_run_lists d_run_lists P_run_lists (spA K F_run_lists)) (b_run_lists : Binds K d_run_lists P_run_lists []) (k_run_lists : PySem.W.keepIn K (.ref g_run_lists) = true) (m_run_lists : mg "run_lists" = some (.ref g_run_lists)) {g_run_index : Addr} {d_run_index : FuncData} (G_run_index : FnOk P w K mg base CX0 1 g_run_index d_run_index P_run_index (spA K F_run_index)) (b_run_index : Binds K d_run_index P_run_index []) (k_run_index : PySem.W.keepIn K (.ref g_run_index) = true) (m_run_index : mg "run_index" = some (.ref g_run_index)) (B : Blt mg) : FnOk P w K mg base CX0 4 f fd P_runs (spA K F_runs) := by
  refine F.ok sc_runs (fun vs H Q E h => lenA h) (fun cdv A outer s H vs Q E hr h => ⟨_, (pss_one (ps_ret (pe_callTy (k_tup (K := K) rfl) rfl B.tuple (by decide +kernel) (pa_cons (pe_lc (own := [("intervals", 1), ("code", 2)]) (g := (gTup K 2 (gCons (gName 1) (gCons (gName 2) gNil)))) rfl sc_runs.nd (k_zipB (K := K) rfl rfl B.zip (pa_cons (pe_call G_run_lists (hr.mono (by decide)) rfl m_run_lists k_run_lists b_run_lists .nil pass0 (pa_cons (pv 0) pa_nil)) (pa_cons (pe_call G_codes (hr.mono (by decide)) rfl m_codes k_codes b_codes .nil pass0 (pa_cons (pv 0) pa_nil)) pa_nil))) (blkOk_by (own := [("intervals", 1), ("code", 2)]) (N := ["row", "intervals", "code"]) (sc := defScope S_runs) (by decide +kernel)) (fun _ _ _ _ _ => by exact (pg_tup rfl (pgs_cons (pg_name (i := 1) sc_runs.nd rfl (by first | exact Or.inl rfl | exact Or.inr rfl)) (pgs_cons (pg_name (i := 2) sc_runs.nd rfl (by first | exact Or.inl rfl | exact Or.inr rfl)) pgs_nil)))) (fun _ _ _ _ _ => pts_nil) (fun _ _ _ _ _ => (pe_ix (k_ix (K := K) rfl) (pv 1) (pe_call G_run_index (hr.mono (by decide)) rfl m_run_index k_run_index b_run_index .nil pass0 (pa_cons (pv 1) (pa_cons (pv 2) pa_nil))) (fun _ _ => rfl)))) pa_nil)))), ?_⟩)
  exact finA (N := N_runs) (by unfold f_runs; exact (OkS.ret (OkE.w (OkE.cb ok_tuple (OkA.cons (OkW.e (OkW.lc (vs := [1, 2]) (OkI.zipB (OkA.cons (OkW.e (OkW.call (OkA.cons (OkE.var 0) OkA.nil))) (OkA.cons (OkW.e (OkW.call (OkA.cons (OkE.var 0) OkA.nil))) OkA.nil))) (OkG.tup (OkGs.cons (OkG.name 1) (OkGs.cons (OkG.name 2) OkGs.nil))) (by decide) OkT.yes (OkE.op ok_ix (OkE.var 1) (OkW.e (OkW.call (OkA.cons (OkE.var 1) (OkA.cons (OkE.var 2) OkA.nil))))))) OkA.nil))))) h
end
def s_clear_between_0 : M Fl :=
    (setS 3 (pl (cb minD (acons (op2 ixD (get 0) (get 1)) (acons (op2 ixD (get 0) (get 2)) anil)))))
def s_clear_between_1 : M Fl :=
    (retS (pl (cb allD (acons (fz (lcW (seqI (slD (get 0) (poS (op2 addD (get 1) (con (.int 1)))) (poS (get 2)))) (gN 4) yesT (op2 ltD (get 4) (get 3)) [4])) anil))))
def f_clear_between : M Fl :=
    (thenS s_clear_between_0 s_clear_between_1)
def F_clear_between : List PyData → Option Wv := runA 3 5 f_clear_between
section
variable {P : Program} {w : World} {K : PySem.W.Frag} {mg : Str → Option Value} {base : Heap} {f : Addr} {fd : FuncData}
theorem dk_clear_between (F : Fun K "clear_between" "clear_between" S_clear_between f fd)  (B : Blt mg) : FnOk P w K mg base CX0 1 f fd P_clear_between (spA K F_clear_between) := by
  refine F.ok sc_clear_between (fun vs H Q E h => lenA h) (fun cdv A outer s H vs Q E hr h => ⟨_, (Evl.pss_cut (ps_set (i := 3) sc_clear_between.nd rfl (by first | exact Or.inl rfl | exact Or.inr rfl) (pe_callB (call_min2 rfl) rfl B.min (by decide +kernel) (pa_cons (pe_ix (k_ix (K := K) rfl) (pv 0) (pv 1) (fun _ _ => rfl)) (pa_cons (pe_ix (k_ix (K := K) rfl) (pv 0) (pv 2) (fun _ _ => rfl)) pa_nil))))
      (pss_one (ps_ret (pe_callB (k_all (K := K) rfl rfl) rfl B.all (by decide +kernel) (pa_cons (pe_lc (own := [("height", 4)]) (g := (gName 4)) rfl sc_clear_between.nd (k_seq (K := K) rfl (pe_slice (k_cut (K := K) rfl) (pv 0) (po_some (pe_op op_add (pv 1) pe_int)) (po_some (pv 2)))) (blkOk_by (own := [("height", 4)]) (N := ["row", "left", "right", "limit", "height"]) (sc := defScope S_clear_between) (by decide +kernel)) (fun _ _ _ _ _ => by exact (pg_name (i := 4) sc_clear_between.nd rfl (by first | exact Or.inl rfl | exact Or.inr rfl))) (fun _ _ _ _ _ => pts_nil) (fun _ _ _ _ _ => (pe_cmpR op_lt (pv 4) (pv 3) (nomark _)))) pa_nil))))), ?_⟩)
  exact finA (N := N_clear_between) (by unfold f_clear_between s_clear_between_1 s_clear_between_0; exact (OkS.cut (OkS.set (fun z => by cases z) (OkE.w (OkE.cb ok_min (OkA.cons (OkE.op ok_ix (OkE.var 0) (OkE.var 1)) (OkA.cons (OkE.op ok_ix (OkE.var 0) (OkE.var 2)) OkA.nil)))))
      (OkS.ret (OkE.w (OkE.cb ok_all (OkA.cons (OkW.e (OkW.lc (vs := [4]) (OkI.seq (OkE.sl (OkE.var 0) (OkP.some (OkE.op ok_add (OkE.var 1) (OkE.con fun _ => .int _))) (OkP.some (OkE.var 2)))) (OkG.name 4) (by decide) OkT.yes (OkE.op ok_lt (OkE.var 4) (OkE.var 3)))) OkA.nil)))))) h
end
def s_sights_0 : M Fl :=
    (setS 1 (pl (cb lenD (acons (get 0) anil))))
def s_sights_1 : M Fl :=
    (retS (pl (fz (lc2W (argI rngD (acons (get 1) anil)) (gN 2) yesT (argI rngD2 (acons (op2 addD (get 2) (con (.int 1))) (acons (get 1) anil))) (gN 3) (tb1 (fz (callA F_clear_between (acons (get 0) (acons (get 2) (acons (get 3) anil)))))) (tupD (acons (get 2) (acons (get 3) anil))) [2, 3] [3]))))
def f_sights : M Fl :=
    (thenS s_sights_0 s_sights_1)
def F_sights : List PyData → Option Wv := runA 1 4 f_sights
section
variable {P : Program} {w : World} {K : PySem.W.Frag} {mg : Str → Option Value} {base : Heap} {f : Addr} {fd : FuncData}
theorem dk_sights (F : Fun K "sights" "sights" S_sights f fd) {g_clear_between : Addr} {d_clear_between : FuncData} (G_clear_between : FnOk P w K mg base CX0 1 g_clear_between d_clear_between P_clear_between (spA K F_clear_between)) (b_clear_between : Binds K d_clear_between P_clear_between []) (k_clear_between : PySem.W.keepIn K (.ref g_clear_between) = true) (m_clear_between : mg "clear_between" = some (.ref g_clear_between)) (B : Blt mg) : FnOk P w K mg base CX0 2 f fd P_sights (spA K F_sights) := by
  refine F.ok sc_sights (fun vs H Q E h => lenA h) (fun cdv A outer s H vs Q E hr h => ⟨_, (Evl.pss_cut (ps_set (i := 1) sc_sights.nd rfl (by first | exact Or.inl rfl | exact Or.inr rfl) (pe_callB (k_len (K := K) rfl) rfl B.len PySem.boot_len (pa_cons (pv 0) pa_nil)))
      (pss_one (ps_ret (pe_lc2 (own := [("left", 2), ("right", 3)]) (vs1 := [3]) (g := (gName 2)) (g1 := (gName 3)) rfl sc_sights.nd (pi_range1 rfl B.range (pa_cons (pv 1) pa_nil)) (blkOk_by (own := [("left", 2), ("right", 3)]) (N := ["row", "many", "left", "right"]) (sc := defScope S_sights) (by decide +kernel)) (by decide) (fun _ _ _ _ _ => by exact (pg_name (i := 2) sc_sights.nd rfl (by first | exact Or.inl rfl | exact Or.inr rfl))) (fun _ _ _ _ _ => pts_nil) (fun _ _ _ _ _ => (pi_range2 rfl B.range (pa_cons (pe_op op_add (pv 2) pe_int) (pa_cons (pv 1) pa_nil)))) (fun _ _ _ _ _ => by exact (pg_name (i := 3) sc_sights.nd rfl (by first | exact Or.inl rfl | exact Or.inr rfl))) (fun _ _ _ _ _ => (pts_one (pt_val (pe_call G_clear_between (hr.mono (by decide)) rfl m_clear_between k_clear_between b_clear_between .nil pass0 (pa_cons (pv 0) (pa_cons (pv 2) (pa_cons (pv 3) pa_nil))))))) (fun _ _ _ _ _ => (pe_tup (pa_cons (pv 2) (pa_cons (pv 3) pa_nil)))))))), ?_⟩)
  exact finA (N := N_sights) (by unfold f_sights s_sights_1 s_sights_0; exact (OkS.cut (OkS.set (fun z => by cases z) (OkE.w (OkE.cb ok_len (OkA.cons (OkE.var 0) OkA.nil))))
      (OkS.ret (OkE.w (OkW.e (OkW.lc2 (vs := [2, 3]) (vs1 := [3]) (OkI.range1 (OkA.cons (OkE.var 1) OkA.nil)) (OkG.name 2) (by decide) OkT.yes (OkJ.range2 (OkA.cons (OkE.op ok_add (OkE.var 2) (OkE.con fun _ => .int _)) (OkA.cons (OkE.var 1) OkA.nil))) (OkG.name 3) (by decide) (by decide) (OkT.val (OkW.e (OkW.call (OkA.cons (OkE.var 0) (OkA.cons (OkE.var 2) (OkA.cons (OkE.var 3) OkA.nil)))))) (OkE.tup (OkA.cons (OkE.var 2) (OkA.cons (OkE.var 3) OkA.nil))))))))) h
end
def f_exchanges : M Fl :=
    (retS (pl (fz (lcW (seqI (fz (callA F_sights (acons (get 0) anil)))) (gT (gsC (gN 1) (gsC (gN 2) gsN))) (tb1 (op2 ltD (get 1) (op2 subD (get 2) (con (.int 1))))) (tupD (acons (get 1) (acons (get 2) anil))) [1, 2]))))
def F_exchanges : List PyData → Option Wv := runA 1 3 f_exchanges
section
variable {P : Program} {w : World} {K : PySem.W.Frag} {mg : Str → Option Value} {base : Heap} {f : Addr} {fd : FuncData}
theorem dk_exchanges (F : Fun K "exchanges" "exchanges" S_exchanges f fd) {g_sights : Addr} {d_sights : FuncData} (G_sights : FnOk P w K mg base CX0 2 g_sights d_sights P_sights (spA K F_sights)) (b_sights : Binds K d_sights P_sights []) (k_sights : PySem.W.keepIn K (.ref g_sights) = true) (m_sights : mg "sights" = some (.ref g_sights)) (B : Blt mg) : FnOk P w K mg base CX0 3 f fd P_exchanges (spA K F_exchanges) := by
  refine F.ok sc_exchanges (fun vs H Q E h => lenA h) (fun cdv A outer s H vs Q E hr h => ⟨_, (pss_one (ps_ret (pe_lc (own := [("left", 1), ("right", 2)]) (g := (gTup K 2 (gCons (gName 1) (gCons (gName 2) gNil)))) rfl sc_exchanges.nd (k_seq (K := K) rfl (pe_call G_sights (hr.mono (by decide)) rfl m_sights k_sights b_sights .nil pass0 (pa_cons (pv 0) pa_nil))) (blkOk_by (own := [("left", 1), ("right", 2)]) (N := ["row", "left", "right"]) (sc := defScope S_exchanges) (by decide +kernel)) (fun _ _ _ _ _ => by exact (pg_tup rfl (pgs_cons (pg_name (i := 1) sc_exchanges.nd rfl (by first | exact Or.inl rfl | exact Or.inr rfl)) (pgs_cons (pg_name (i := 2) sc_exchanges.nd rfl (by first | exact Or.inl rfl | exact Or.inr rfl)) pgs_nil)))) (fun _ _ _ _ _ => (pts_one (pt_cmpR op_lt (pv 1) (pe_op op_sub (pv 2) pe_int) (nomark _)))) (fun _ _ _ _ _ => (pe_tup (pa_cons (pv 1) (pa_cons (pv 2) pa_nil))))))), ?_⟩)
  exact finA (N := N_exchanges) (by unfold f_exchanges; exact (OkS.ret (OkE.w (OkW.e (OkW.lc (vs := [1, 2]) (OkI.seq (OkW.e (OkW.call (OkA.cons (OkE.var 0) OkA.nil)))) (OkG.tup (OkGs.cons (OkG.name 1) (OkGs.cons (OkG.name 2) OkGs.nil))) (by decide) (OkT.test (OkE.op ok_lt (OkE.var 1) (OkE.op ok_sub (OkE.var 2) (OkE.con fun _ => .int _)))) (OkE.tup (OkA.cons (OkE.var 1) (OkA.cons (OkE.var 2) OkA.nil)))))))) h
end
def f_check_same_people : M Fl :=
    (ifS (tb1 (op2 (eqvD true) (cb sortD (acons (get 0) anil)) (cb sortD (acons (get 1) anil)))) stuckS nxt)
def F_check_same_people : List PyData → Option Wv := runA 2 2 f_check_same_people
section
variable {P : Program} {w : World} {K : PySem.W.Frag} {mg : Str → Option Value} {base : Heap} {f : Addr} {fd : FuncData}
theorem dk_check_same_people (F : Fun K "check_same_people" "check_same_people" S_check_same_people f fd)  (B : Blt mg) : FnOk P w K mg base CX0 1 f fd P_check_same_people (spA K F_check_same_people) := by
  refine F.ok sc_check_same_people (fun vs H Q E h => lenA h) (fun cdv A outer s H vs Q E hr h => ⟨_, (pss_one (ps_if (pt_cmpR (k_neD (K := K) rfl hr.units) (pe_callB (k_sorted (K := K) rfl) rfl B.sorted (by decide +kernel) (pa_cons (pv 0) pa_nil)) (pe_callB (k_sorted (K := K) rfl) rfl B.sorted (by decide +kernel) (pa_cons (pv 1) pa_nil)) (nomark _)) (pss_one ps_never) pss_nil)), ?_⟩)
  exact finA (N := N_check_same_people) (by unfold f_check_same_people; exact (OkS.ife (OkT.test (OkE.op ok_neD (OkE.cb ok_sort (OkA.cons (OkE.var 0) OkA.nil)) (OkE.cb ok_sort (OkA.cons (OkE.var 1) OkA.nil)))) OkS.stuck OkS.nil)) h
end
def s_bar_0 : M Fl :=
    (exprS (fz (callA F_check_same_people (acons (get 0) (acons (get 1) anil)))))
def b_bar_1 : M Fl :=
    (ifS (tb1 (op2 (eqvD true) (get 3) (get 4))) (retS (pl (get 2))) nxt)
def s_bar_1 : M Fl :=
    (forS (argI zip3M (acons (cb sortD (acons (get 0) anil)) (acons (fz (callA F_runs (acons (get 0) anil))) (acons (fz (callA F_runs (acons (get 1) anil))) anil)))) (gT (gsC (gN 2) (gsC (gN 3) (gsC (gN 4) gsN)))) b_bar_1)
def s_bar_2 : M Fl :=
    (retS (pl (con .none)))
def f_bar : M Fl :=
    (thenS s_bar_0 (thenS s_bar_1 s_bar_2))
def F_bar : List PyData → Option Wv := runA 2 5 f_bar
section
variable {P : Program} {w : World} {K : PySem.W.Frag} {mg : Str → Option Value} {base : Heap} {f : Addr} {fd : FuncData}
theorem dk_bar (F : Fun K "bar" "bar" S_bar f fd) {g_check_same_people : Addr} {d_check_same_people : FuncData} (G_check_same_people : FnOk P w K mg base CX0 1 g_check_same_people d_check_same_people P_check_same_people (spA K F_check_same_people)) (b_check_same_people : Binds K d_check_same_people P_check_same_people []) (k_check_same_people : PySem.W.keepIn K (.ref g_check_same_people) = true) (m_check_same_people : mg "check_same_people" = some (.ref g_check_same_people)) {g_runs : Addr} {d_runs : FuncData} (G_runs : FnOk P w K mg base CX0 4 g_runs d_runs P_runs (spA K F_runs)) (b_runs : Binds K d_runs P_runs []) (k_runs : PySem.W.keepIn K (.ref g_runs) = true) (m_runs : mg "runs" = some (.ref g_runs)) (B : Blt mg) : FnOk P w K mg base CX0 5 f fd P_bar (spA K F_bar) := by
  refine F.ok sc_bar (fun vs H Q E h => lenA h) (fun cdv A outer s H vs Q E hr h => ⟨_, (Evl.pss_cut (ps_expr (pe_call G_check_same_people (hr.mono (by decide)) rfl m_check_same_people k_check_same_people b_check_same_people .nil pass0 (pa_cons (pv 0) (pa_cons (pv 1) pa_nil))))
      (Evl.pss_cut (ps_for PassesOwn.never rfl (k_zipC (K := K) rfl rfl B.zip (pa_cons (pe_callB (k_sorted (K := K) rfl) rfl B.sorted (by decide +kernel) (pa_cons (pv 0) pa_nil)) (pa_cons (pe_call G_runs (hr.mono (by decide)) rfl m_runs k_runs b_runs .nil pass0 (pa_cons (pv 0) pa_nil)) (pa_cons (pe_call G_runs (hr.mono (by decide)) rfl m_runs k_runs b_runs .nil pass0 (pa_cons (pv 1) pa_nil)) pa_nil)))) (pg_tup rfl (pgs_cons (pg_name (i := 2) sc_bar.nd rfl (by first | exact Or.inl rfl | exact Or.inr rfl)) (pgs_cons (pg_name (i := 3) sc_bar.nd rfl (by first | exact Or.inl rfl | exact Or.inr rfl)) (pgs_cons (pg_name (i := 4) sc_bar.nd rfl (by first | exact Or.inl rfl | exact Or.inr rfl)) pgs_nil))))
      (pss_one (ps_if (pt_cmpR (k_neD (K := K) rfl hr.units) (pv 3) (pv 4) (nomark _)) (pss_one (ps_ret (pv 2))) pss_nil)))
      (pss_one (ps_ret pe_non)))), ?_⟩)
  exact finA (N := N_bar) (by unfold f_bar s_bar_2 s_bar_1 b_bar_1 s_bar_0; exact (OkS.cut (OkS.expr (OkW.e (OkW.call (OkA.cons (OkE.var 0) (OkA.cons (OkE.var 1) OkA.nil)))))
      (OkS.cut (OkS.for (OkI.zipC (OkA.cons (OkE.cb ok_sort (OkA.cons (OkE.var 0) OkA.nil)) (OkA.cons (OkW.e (OkW.call (OkA.cons (OkE.var 0) OkA.nil))) (OkA.cons (OkW.e (OkW.call (OkA.cons (OkE.var 1) OkA.nil))) OkA.nil)))) (OkG.tup (OkGs.cons (OkG.name 2) (OkGs.cons (OkG.name 3) (OkGs.cons (OkG.name 4) OkGs.nil)))) (fun z => by cases z) (OkS.ife (OkT.test (OkE.op ok_neD (OkE.var 3) (OkE.var 4))) (OkS.ret (OkE.w (OkE.var 2))) OkS.nil))
      (OkS.ret (OkE.w (OkE.con fun _ => .non)))))) h
end
def f_leads : M Fl :=
    (retS (pl (isNE false (fz (callA F_bar (acons (get 0) (acons (get 1) anil)))))))
def F_leads : List PyData → Option Wv := runA 2 2 f_leads
section
variable {P : Program} {w : World} {K : PySem.W.Frag} {mg : Str → Option Value} {base : Heap} {f : Addr} {fd : FuncData}
theorem dk_leads (F : Fun K "leads" "leads" S_leads f fd) {g_bar : Addr} {d_bar : FuncData} (G_bar : FnOk P w K mg base CX0 5 g_bar d_bar P_bar (spA K F_bar)) (b_bar : Binds K d_bar P_bar []) (k_bar : PySem.W.keepIn K (.ref g_bar) = true) (m_bar : mg "bar" = some (.ref g_bar)) (B : Blt mg) : FnOk P w K mg base CX0 6 f fd P_leads (spA K F_leads) := by
  refine F.ok sc_leads (fun vs H Q E h => lenA h) (fun cdv A outer s H vs Q E hr h => ⟨_, (pss_one (ps_ret (pe_cmpR op_isN (pe_call G_bar (hr.mono (by decide)) rfl m_bar k_bar b_bar .nil pass0 (pa_cons (pv 0) (pa_cons (pv 1) pa_nil))) pe_non (nomark _)))), ?_⟩)
  exact finA (N := N_leads) (by unfold f_leads; exact (OkS.ret (OkE.w (OkE.isN (OkW.e (OkW.call (OkA.cons (OkE.var 0) (OkA.cons (OkE.var 1) OkA.nil)))))))) h
end
def s_count_rows_0 : M Fl :=
    (setS 1 (pl (con (.int 1))))
def b_count_rows_1 : M Fl :=
    (augS 1 mulD (fz (callA F_run_size (acons (get 2) anil))))
def s_count_rows_1 : M Fl :=
    (forS (seqI (fz (callA F_runs (acons (get 0) anil)))) (gN 2) b_count_rows_1)
def s_count_rows_2 : M Fl :=
    (retS (pl (get 1)))
def f_count_rows : M Fl :=
    (thenS s_count_rows_0 (thenS s_count_rows_1 s_count_rows_2))
def F_count_rows : List PyData → Option Wv := runA 1 3 f_count_rows
section
variable {P : Program} {w : World} {K : PySem.W.Frag} {mg : Str → Option Value} {base : Heap} {f : Addr} {fd : FuncData}
theorem dk_count_rows (F : Fun K "count_rows" "count_rows" S_count_rows f fd) {g_run_size : Addr} {d_run_size : FuncData} (G_run_size : FnOk P w K mg base CX0 1 g_run_size d_run_size P_run_size (spA K F_run_size)) (b_run_size : Binds K d_run_size P_run_size []) (k_run_size : PySem.W.keepIn K (.ref g_run_size) = true) (m_run_size : mg "run_size" = some (.ref g_run_size)) {g_runs : Addr} {d_runs : FuncData} (G_runs : FnOk P w K mg base CX0 4 g_runs d_runs P_runs (spA K F_runs)) (b_runs : Binds K d_runs P_runs []) (k_runs : PySem.W.keepIn K (.ref g_runs) = true) (m_runs : mg "runs" = some (.ref g_runs)) (B : Blt mg) : FnOk P w K mg base CX0 5 f fd P_count_rows (spA K F_count_rows) := by
  refine F.ok sc_count_rows (fun vs H Q E h => lenA h) (fun cdv A outer s H vs Q E hr h => ⟨_, (Evl.pss_cut (ps_set (i := 1) sc_count_rows.nd rfl (by first | exact Or.inl rfl | exact Or.inr rfl) pe_int)
      (Evl.pss_cut (ps_for PassesOwn.never rfl (k_seq (K := K) rfl (pe_call G_runs (hr.mono (by decide)) rfl m_runs k_runs b_runs .nil pass0 (pa_cons (pv 0) pa_nil))) (pg_name (i := 2) sc_count_rows.nd rfl (by first | exact Or.inl rfl | exact Or.inr rfl))
      (pss_one (ps_aug (i := 1) sc_count_rows.nd rfl (by first | exact Or.inl rfl | exact Or.inr rfl) (pe_call G_run_size (hr.mono (by decide)) rfl m_run_size k_run_size b_run_size .nil pass0 (pa_cons (pv 2) pa_nil)) ip_mul)))
      (pss_one (ps_ret (pv 1))))), ?_⟩)
  exact finA (N := N_count_rows) (by unfold f_count_rows s_count_rows_2 s_count_rows_1 b_count_rows_1 s_count_rows_0; exact (OkS.cut (OkS.set (fun z => by cases z) (OkE.w (OkE.con fun _ => .int _)))
      (OkS.cut (OkS.for (OkI.seq (OkW.e (OkW.call (OkA.cons (OkE.var 0) OkA.nil)))) (OkG.name 2) (fun z => by cases z) (OkS.aug (fun z => by cases z) aug_mul (OkW.e (OkW.call (OkA.cons (OkE.var 2) OkA.nil)))))
      (OkS.ret (OkE.w (OkE.var 1)))))) h
end
def s_row_at_0 : M Fl :=
    (ifS (orT (tb1 (op2 ltD (get 1) (con (.int 0)))) (tb1 (op2 geD (get 1) (fz (callA F_count_rows (acons (get 0) anil)))))) stuckS nxt)
def s_row_at_1 : M Fl :=
    (setS 2 (lstW anil))
def s_row_at_2 : M Fl :=
    (setS 3 (pl (get 1)))
def b_row_at_3 : M Fl :=
    (thenS (unS (gT (gsC (gN 3) (gsC (gN 5) gsN))) (cb dmD (acons (get 3) (acons (fz (callA F_run_size (acons (get 4) anil))) anil))))
    (exprS (mthE 2 appD (acons (op2 addD (op2 ixD (get 4) (con (.int 0))) (get 5)) anil))))
def s_row_at_3 : M Fl :=
    (forS (revI (fz (callA F_runs (acons (get 0) anil)))) (gN 4) b_row_at_3)
def s_row_at_4 : M Fl :=
    (retS (pl (fz (callA F_row_with (acons (get 0) (acons (op1 revD (get 2)) anil))))))
def f_row_at : M Fl :=
    (thenS s_row_at_0 (thenS s_row_at_1 (thenS s_row_at_2 (thenS s_row_at_3 s_row_at_4))))
def F_row_at : List PyData → Option Wv := runA 2 6 f_row_at
section
variable {P : Program} {w : World} {K : PySem.W.Frag} {mg : Str → Option Value} {base : Heap} {f : Addr} {fd : FuncData}
theorem dk_row_at (F : Fun K "row_at" "row_at" S_row_at f fd) {g_count_rows : Addr} {d_count_rows : FuncData} (G_count_rows : FnOk P w K mg base CX0 5 g_count_rows d_count_rows P_count_rows (spA K F_count_rows)) (b_count_rows : Binds K d_count_rows P_count_rows []) (k_count_rows : PySem.W.keepIn K (.ref g_count_rows) = true) (m_count_rows : mg "count_rows" = some (.ref g_count_rows)) {g_runs : Addr} {d_runs : FuncData} (G_runs : FnOk P w K mg base CX0 4 g_runs d_runs P_runs (spA K F_runs)) (b_runs : Binds K d_runs P_runs []) (k_runs : PySem.W.keepIn K (.ref g_runs) = true) (m_runs : mg "runs" = some (.ref g_runs)) {g_run_size : Addr} {d_run_size : FuncData} (G_run_size : FnOk P w K mg base CX0 1 g_run_size d_run_size P_run_size (spA K F_run_size)) (b_run_size : Binds K d_run_size P_run_size []) (k_run_size : PySem.W.keepIn K (.ref g_run_size) = true) (m_run_size : mg "run_size" = some (.ref g_run_size)) {g_row_with : Addr} {d_row_with : FuncData} (G_row_with : FnOk P w K mg base CX0 1 g_row_with d_row_with P_row_with (spA K F_row_with)) (b_row_with : Binds K d_row_with P_row_with []) (k_row_with : PySem.W.keepIn K (.ref g_row_with) = true) (m_row_with : mg "row_with" = some (.ref g_row_with)) (B : Blt mg) (zdivmod : mg "divmod" = none) : FnOk P w K mg base CX0 6 f fd P_row_at (spA K F_row_at) := by
  refine F.ok sc_row_at (fun vs H Q E h => lenA h) (fun cdv A outer s H vs Q E hr h => ⟨_, (Evl.pss_cut (ps_if (PW.pt (pw_or (pt_cmpR op_lt (pv 1) pe_int (nomark _)) (pw_or1 (pt_cmpR op_ge (pv 1) (pe_call G_count_rows (hr.mono (by decide)) rfl m_count_rows k_count_rows b_count_rows .nil pass0 (pa_cons (pv 0) pa_nil)) (nomark _))))) (pss_one ps_never) pss_nil)
      (Evl.pss_cut (ps_set (i := 2) sc_row_at.nd rfl (by first | exact Or.inl rfl | exact Or.inr rfl) (pe_lst pa_nil))
      (Evl.pss_cut (ps_set (i := 3) sc_row_at.nd rfl (by first | exact Or.inl rfl | exact Or.inr rfl) (pv 1))
      (Evl.pss_cut (ps_for PassesOwn.never rfl (k_rev (K := K) rfl rfl B.reversed (pe_call G_runs (hr.mono (by decide)) rfl m_runs k_runs b_runs .nil pass0 (pa_cons (pv 0) pa_nil))) (pg_name (i := 4) sc_row_at.nd rfl (by first | exact Or.inl rfl | exact Or.inr rfl))
      (Evl.pss_cut (ps_asg (pe_callB cr_divmod rfl zdivmod (by decide +kernel) (pa_cons (pv 3) (pa_cons (pe_call G_run_size (hr.mono (by decide)) rfl m_run_size k_run_size b_run_size .nil pass0 (pa_cons (pv 4) pa_nil)) pa_nil))) (pg_tup rfl (pgs_cons (pg_name (i := 3) sc_row_at.nd rfl (by first | exact Or.inl rfl | exact Or.inr rfl)) (pgs_cons (pg_name (i := 5) sc_row_at.nd rfl (by first | exact Or.inl rfl | exact Or.inr rfl)) pgs_nil))))
      (pss_one (ps_expr (k_bm (K := K) rfl PySem.F.plainAttrs_list PySem.F.slot_list_append PySem.F.type_list_append mt_append (pv 2) (pa_cons (pe_op op_add (pe_ix (k_ix (K := K) rfl) (pv 4) pe_int (fun _ _ => rfl)) (pv 5)) pa_nil))))))
      (pss_one (ps_ret (pe_call G_row_with (hr.mono (by decide)) rfl m_row_with k_row_with b_row_with .nil pass0 (pa_cons (pv 0) (pa_cons (k_revW (K := K) rfl (pv 2)) pa_nil))))))))), ?_⟩)
  exact finA (N := N_row_at) (by unfold f_row_at s_row_at_4 s_row_at_3 b_row_at_3 s_row_at_2 s_row_at_1 s_row_at_0; exact (OkS.cut (OkS.ife (OkT.or (OkT.test (OkE.op ok_lt (OkE.var 1) (OkE.con fun _ => .int _))) (OkT.test (OkE.op ok_ge (OkE.var 1) (OkW.e (OkW.call (OkA.cons (OkE.var 0) OkA.nil)))))) OkS.stuck OkS.nil)
      (OkS.cut (OkS.set (fun z => by cases z) (OkW.lst OkA.nil))
      (OkS.cut (OkS.set (fun z => by cases z) (OkE.w (OkE.var 1)))
      (OkS.cut (OkS.for (OkI.rev (OkW.e (OkW.call (OkA.cons (OkE.var 0) OkA.nil)))) (OkG.name 4) (fun z => by cases z) (OkS.cut (OkS.unpack (OkG.tup (OkGs.cons (OkG.name 3) (OkGs.cons (OkG.name 5) OkGs.nil))) (fun z => by cases z) (OkE.cb ok_dm (OkA.cons (OkE.var 3) (OkA.cons (OkW.e (OkW.call (OkA.cons (OkE.var 4) OkA.nil))) OkA.nil))))
      (OkS.expr (OkE.mth ok_app (OkA.cons (OkE.op ok_add (OkE.op ok_ix (OkE.var 4) (OkE.con fun _ => .int _)) (OkE.var 5)) OkA.nil)))))
      (OkS.ret (OkE.w (OkW.e (OkW.call (OkA.cons (OkE.var 0) (OkA.cons (OkE.rev (OkE.var 2)) OkA.nil))))))))))) h
end
def s_all_rows_0 : M Fl :=
    (setS 1 (pl (fz (callA F_count_rows (acons (get 0) anil)))))
def s_all_rows_1 : M Fl :=
    (ifS (tb1 (op2 gtD (get 1) (con (.int 300)))) stuckS nxt)
def s_all_rows_2 : M Fl :=
    (retS (pl (fz (lcW (argI rngD (acons (get 1) anil)) (gN 2) yesT (fz (callA F_row_at (acons (get 0) (acons (get 2) anil)))) [2]))))
def f_all_rows : M Fl :=
    (thenS s_all_rows_0 (thenS s_all_rows_1 s_all_rows_2))
def F_all_rows : List PyData → Option Wv := runA 1 3 f_all_rows
section
variable {P : Program} {w : World} {K : PySem.W.Frag} {mg : Str → Option Value} {base : Heap} {f : Addr} {fd : FuncData}
theorem dk_all_rows (F : Fun K "all_rows" "all_rows" S_all_rows f fd) {g_count_rows : Addr} {d_count_rows : FuncData} (G_count_rows : FnOk P w K mg base CX0 5 g_count_rows d_count_rows P_count_rows (spA K F_count_rows)) (b_count_rows : Binds K d_count_rows P_count_rows []) (k_count_rows : PySem.W.keepIn K (.ref g_count_rows) = true) (m_count_rows : mg "count_rows" = some (.ref g_count_rows)) {g_row_at : Addr} {d_row_at : FuncData} (G_row_at : FnOk P w K mg base CX0 6 g_row_at d_row_at P_row_at (spA K F_row_at)) (b_row_at : Binds K d_row_at P_row_at []) (k_row_at : PySem.W.keepIn K (.ref g_row_at) = true) (m_row_at : mg "row_at" = some (.ref g_row_at)) (B : Blt mg) {tMOST : Tok} (zMOST : mg "MOST" = some (.int 300 tMOST)) : FnOk P w K mg base CX0 7 f fd P_all_rows (spA K F_all_rows) := by
  refine F.ok sc_all_rows (fun vs H Q E h => lenA h) (fun cdv A outer s H vs Q E hr h => ⟨_, (Evl.pss_cut (ps_set (i := 1) sc_all_rows.nd rfl (by first | exact Or.inl rfl | exact Or.inr rfl) (pe_call G_count_rows (hr.mono (by decide)) rfl m_count_rows k_count_rows b_count_rows .nil pass0 (pa_cons (pv 0) pa_nil)))
      (Evl.pss_cut (ps_if (pt_cmpR op_gt (pv 1) (pe_glob (v := .int 300) rfl zMOST ⟨_, rfl⟩) (nomark _)) (pss_one ps_never) pss_nil)
      (pss_one (ps_ret (pe_lc (own := [("number", 2)]) (g := (gName 2)) rfl sc_all_rows.nd (pi_range1 rfl B.range (pa_cons (pv 1) pa_nil)) (blkOk_by (own := [("number", 2)]) (N := ["row", "many", "number"]) (sc := defScope S_all_rows) (by decide +kernel)) (fun _ _ _ _ _ => by exact (pg_name (i := 2) sc_all_rows.nd rfl (by first | exact Or.inl rfl | exact Or.inr rfl))) (fun _ _ _ _ _ => pts_nil) (fun _ _ _ _ _ => (pe_call G_row_at (hr.mono (by decide)) rfl m_row_at k_row_at b_row_at .nil pass0 (pa_cons (pv 0) (pa_cons (pv 2) pa_nil))))))))), ?_⟩)
  exact finA (N := N_all_rows) (by unfold f_all_rows s_all_rows_2 s_all_rows_1 s_all_rows_0; exact (OkS.cut (OkS.set (fun z => by cases z) (OkE.w (OkW.e (OkW.call (OkA.cons (OkE.var 0) OkA.nil)))))
      (OkS.cut (OkS.ife (OkT.test (OkE.op ok_gt (OkE.var 1) (OkE.con fun _ => .int _))) OkS.stuck OkS.nil)
      (OkS.ret (OkE.w (OkW.e (OkW.lc (vs := [2]) (OkI.range1 (OkA.cons (OkE.var 1) OkA.nil)) (OkG.name 2) (by decide) OkT.yes (OkW.e (OkW.call (OkA.cons (OkE.var 0) (OkA.cons (OkE.var 2) OkA.nil))))))))))) h
end
def s_valley_right_0 : M Fl :=
    (setS 1 (pl (op2 addD (con (.int 2)) (fz (callB 0 (F_take 2) (acons (con (.int 14)) anil))))))
def s_valley_right_1 : M Fl :=
    (setS 2 (pl (fz (callB 0 F_souls (acons (get 1) anil)))))
def s_valley_right_2 : M Fl :=
    (parS 3 4 (lstW anil) (lstW anil))
def b_valley_right_3 : M Fl :=
    (ifS (tb1 (op2 (eqA false) (fz (callB 0 (F_take 2) (acons (con (.int 2)) anil))) (con (.int 0)))) (exprS (mthE 3 appD (acons (get 5) anil))) (exprS (mthE 4 appD (acons (get 5) anil))))
def s_valley_right_3 : M Fl :=
    (forS (seqI (slD (get 2) (poS (con (.int 1))) poN)) (gN 5) b_valley_right_3)
def s_valley_right_4 : M Fl :=
    (setS 6 (pl (cb tupleD (acons (op2 catD (op2 catD (op1 revD (get 3)) (slD (get 2) poN (poS (con (.int 1))))) (get 4)) anil))))
def s_valley_right_5 : M Fl :=
    (unW [7, 8, 9, 10] (wcons (pl (cb lenD (acons (get 3) anil))) (wcons (pl (cb lenD (acons (get 3) anil))) (wcons (lstW anil) (wcons (pl (con (.int 1))) wnil)))))
def b_valley_right_6 : M Fl :=
    (thenS (exprS (mthE 9 appD (acons (tupD (acons (get 7) (acons (get 8) anil))) anil)))
    (thenS (setS 10 (pl (op2 mulD (get 10) (op2 addD (op2 subD (get 8) (get 7)) (con (.int 1))))))
    (parS 7 8 (pl (cb maxD (acons (con (.int 0)) (acons (op2 subD (get 7) (con (.int 1))) anil)))) (pl (cb minD (acons (get 8) (acons (op2 subD (op2 subD (get 1) (get 11)) (con (.int 2))) anil)))))))
def s_valley_right_6 : M Fl :=
    (forS (argI rngD (acons (get 1) anil)) (gN 11) b_valley_right_6)
def s_valley_right_7 : M Fl :=
    (retS (pl (andV (op2 (eqvD false) (fz (callA F_runs (acons (get 6) anil))) (cb tupleD (acons (get 9) anil))) (op2 (eqA false) (fz (callA F_count_rows (acons (get 6) anil))) (get 10)))))
def f_valley_right : M Fl :=
    (thenS s_valley_right_0 (thenS s_valley_right_1 (thenS s_valley_right_2 (thenS s_valley_right_3 (thenS s_valley_right_4 (thenS s_valley_right_5 (thenS s_valley_right_6 s_valley_right_7)))))))
def F_valley_right : List PyData → List PyData → Option (Wv × List PyData) := runB 1 12 f_valley_right
section
variable {P : Program} {w : World} {K : PySem.W.Frag} {mg : Str → Option Value} {base : Heap} {f : Addr} {fd : FuncData}
theorem dk_valley_right (F : Fun K "_law_valley_right" "_law_valley_right" S_valley_right f fd) {g_take : Addr} {d_take : FuncData} (G_take : FnOk P w K mg base CX0 2 g_take d_take P_take (spB K (F_take 2))) (b_take : Binds K d_take P_take []) (k_take : PySem.W.keepIn K (.ref g_take) = true) (m_take : mg "_law_take" = some (.ref g_take)) {g_souls : Addr} {d_souls : FuncData} (G_souls : FnOk P w K mg base CX0 4 g_souls d_souls P_souls (spB K F_souls)) (b_souls : Binds K d_souls P_souls []) (k_souls : PySem.W.keepIn K (.ref g_souls) = true) (m_souls : mg "_law_souls" = some (.ref g_souls)) {g_runs : Addr} {d_runs : FuncData} (G_runs : FnOk P w K mg base CX0 4 g_runs d_runs P_runs (spA K F_runs)) (b_runs : Binds K d_runs P_runs []) (k_runs : PySem.W.keepIn K (.ref g_runs) = true) (m_runs : mg "runs" = some (.ref g_runs)) {g_count_rows : Addr} {d_count_rows : FuncData} (G_count_rows : FnOk P w K mg base CX0 5 g_count_rows d_count_rows P_count_rows (spA K F_count_rows)) (b_count_rows : Binds K d_count_rows P_count_rows []) (k_count_rows : PySem.W.keepIn K (.ref g_count_rows) = true) (m_count_rows : mg "count_rows" = some (.ref g_count_rows)) (B : Blt mg) : FnOk P w K mg base CX0 6 f fd P_valley_right (spB K F_valley_right) := by
  refine F.ok sc_valley_right (fun vs H Q E h => lenB h) (fun cdv A outer s H vs Q E hr h => ⟨_, (Evl.pss_cut (ps_set (i := 1) sc_valley_right.nd rfl (by first | exact Or.inl rfl | exact Or.inr rfl) (pe_op op_add pe_int (pe_call G_take (hr.mono (by decide)) rfl m_take k_take b_take .nil pass0 (pa_cons (pv 0) (pa_cons pe_int pa_nil)))))
      (Evl.pss_cut (ps_set (i := 2) sc_valley_right.nd rfl (by first | exact Or.inl rfl | exact Or.inr rfl) (pe_call G_souls (hr.mono (by decide)) rfl m_souls k_souls b_souls .nil pass0 (pa_cons (pv 0) (pa_cons (pv 1) pa_nil))))
      (Evl.pss_cut (ps_par (i := 3) (j := 4) rfl sc_valley_right.nd rfl rfl (by decide) rfl rfl (pa_cons (pe_lst pa_nil) (pa_cons (pe_lst pa_nil) pa_nil)) rfl)
      (Evl.pss_cut (ps_for PassesOwn.never rfl (k_seq (K := K) rfl (pe_slice (k_cut (K := K) rfl) (pv 2) (po_some pe_int) po_none)) (pg_name (i := 5) sc_valley_right.nd rfl (by first | exact Or.inl rfl | exact Or.inr rfl))
      (pss_one (ps_if (pt_cmpR op_eq (pe_call G_take (hr.mono (by decide)) rfl m_take k_take b_take .nil pass0 (pa_cons (pv 0) (pa_cons pe_int pa_nil))) pe_int (nomark _)) (pss_one (ps_expr (k_bm (K := K) rfl PySem.F.plainAttrs_list PySem.F.slot_list_append PySem.F.type_list_append mt_append (pv 3) (pa_cons (pv 5) pa_nil)))) (pss_one (ps_expr (k_bm (K := K) rfl PySem.F.plainAttrs_list PySem.F.slot_list_append PySem.F.type_list_append mt_append (pv 4) (pa_cons (pv 5) pa_nil)))))))
      (Evl.pss_cut (ps_set (i := 6) sc_valley_right.nd rfl (by first | exact Or.inl rfl | exact Or.inr rfl) (pe_callTy (k_tup (K := K) rfl) rfl B.tuple (by decide +kernel) (pa_cons (pe_op op_catL (pe_op op_catL (k_revW (K := K) rfl (pv 3)) (pe_slice (k_cut (K := K) rfl) (pv 2) po_none (po_some pe_int))) (pv 4)) pa_nil)))
      (Evl.pss_cut (ps_asg (pe_tup (pa_cons (pe_callB (k_len (K := K) rfl) rfl B.len PySem.boot_len (pa_cons (pv 3) pa_nil)) (pa_cons (pe_callB (k_len (K := K) rfl) rfl B.len PySem.boot_len (pa_cons (pv 3) pa_nil)) (pa_cons (pe_lst pa_nil) (pa_cons pe_int pa_nil))))) (pg_tup rfl (pgs_cons (pg_name (i := 7) sc_valley_right.nd rfl (by first | exact Or.inl rfl | exact Or.inr rfl)) (pgs_cons (pg_name (i := 8) sc_valley_right.nd rfl (by first | exact Or.inl rfl | exact Or.inr rfl)) (pgs_cons (pg_name (i := 9) sc_valley_right.nd rfl (by first | exact Or.inl rfl | exact Or.inr rfl)) (pgs_cons (pg_name (i := 10) sc_valley_right.nd rfl (by first | exact Or.inl rfl | exact Or.inr rfl)) pgs_nil))))))
      (Evl.pss_cut (ps_for PassesOwn.never rfl (pi_range1 rfl B.range (pa_cons (pv 1) pa_nil)) (pg_name (i := 11) sc_valley_right.nd rfl (by first | exact Or.inl rfl | exact Or.inr rfl))
      (Evl.pss_cut (ps_expr (k_bm (K := K) rfl PySem.F.plainAttrs_list PySem.F.slot_list_append PySem.F.type_list_append mt_append (pv 9) (pa_cons (pe_tup (pa_cons (pv 7) (pa_cons (pv 8) pa_nil))) pa_nil)))
      (Evl.pss_cut (ps_set (i := 10) sc_valley_right.nd rfl (by first | exact Or.inl rfl | exact Or.inr rfl) (pe_op op_mul (pv 10) (pe_op op_add (pe_op op_sub (pv 8) (pv 7)) pe_int)))
      (pss_one (ps_par (i := 7) (j := 8) rfl sc_valley_right.nd rfl rfl (by decide) rfl rfl (pa_cons (pe_callB (call_max2 rfl) rfl B.max (by decide +kernel) (pa_cons pe_int (pa_cons (pe_op op_sub (pv 7) pe_int) pa_nil))) (pa_cons (pe_callB (call_min2 rfl) rfl B.min (by decide +kernel) (pa_cons (pv 8) (pa_cons (pe_op op_sub (pe_op op_sub (pv 1) (pv 11)) pe_int) pa_nil))) pa_nil)) rfl)))))
      (pss_one (ps_ret (pe_and (pe_cmpR (k_eqD (K := K) rfl hr.units) (pe_call G_runs (hr.mono (by decide)) rfl m_runs k_runs b_runs .nil pass0 (pa_cons (pv 6) pa_nil)) (pe_callTy (k_tup (K := K) rfl) rfl B.tuple (by decide +kernel) (pa_cons (pv 9) pa_nil)) (nomark _)) (pe_one (pe_cmpR op_eq (pe_call G_count_rows (hr.mono (by decide)) rfl m_count_rows k_count_rows b_count_rows .nil pass0 (pa_cons (pv 6) pa_nil)) (pv 10) (nomark _))))))))))))), ?_⟩)
  exact finB (N := N_valley_right) (by unfold f_valley_right s_valley_right_7 s_valley_right_6 b_valley_right_6 s_valley_right_5 s_valley_right_4 s_valley_right_3 b_valley_right_3 s_valley_right_2 s_valley_right_1 s_valley_right_0; exact (OkS.cut (OkS.set (fun _ => by decide) (OkE.w (OkE.op ok_add (OkE.con fun _ => .int _) (OkW.e (OkW.callB (OkA.cons (OkE.con fun _ => .int _) OkA.nil))))))
      (OkS.cut (OkS.set (fun _ => by decide) (OkE.w (OkW.e (OkW.callB (OkA.cons (OkE.var 1) OkA.nil)))))
      (OkS.cut (OkS.par (fun _ => ⟨by decide, by decide⟩) (OkW.lst OkA.nil) (OkW.lst OkA.nil))
      (OkS.cut (OkS.for (OkI.seq (OkE.sl (OkE.var 2) (OkP.some (OkE.con fun _ => .int _)) OkP.none)) (OkG.name 5) (fun _ => by decide) (OkS.ife (OkT.test (OkE.op ok_eq (OkW.e (OkW.callB (OkA.cons (OkE.con fun _ => .int _) OkA.nil))) (OkE.con fun _ => .int _))) (OkS.expr (OkE.mth ok_app (OkA.cons (OkE.var 5) OkA.nil))) (OkS.expr (OkE.mth ok_app (OkA.cons (OkE.var 5) OkA.nil)))))
      (OkS.cut (OkS.set (fun _ => by decide) (OkE.w (OkE.cb ok_tuple (OkA.cons (OkE.op ok_catL (OkE.op ok_catL (OkE.rev (OkE.var 3)) (OkE.sl (OkE.var 2) OkP.none (OkP.some (OkE.con fun _ => .int _)))) (OkE.var 4)) OkA.nil))))
      (OkS.cut (OkS.unW (js := [7, 8, 9, 10]) (fun _ => by decide) (OkV.cons (OkE.w (OkE.cb ok_len (OkA.cons (OkE.var 3) OkA.nil))) (OkV.cons (OkE.w (OkE.cb ok_len (OkA.cons (OkE.var 3) OkA.nil))) (OkV.cons (OkW.lst OkA.nil) (OkV.cons (OkE.w (OkE.con fun _ => .int _)) OkV.nil)))))
      (OkS.cut (OkS.for (OkI.range1 (OkA.cons (OkE.var 1) OkA.nil)) (OkG.name 11) (fun _ => by decide) (OkS.cut (OkS.expr (OkE.mth ok_app (OkA.cons (OkE.tup (OkA.cons (OkE.var 7) (OkA.cons (OkE.var 8) OkA.nil))) OkA.nil)))
      (OkS.cut (OkS.set (fun _ => by decide) (OkE.w (OkE.op ok_mul (OkE.var 10) (OkE.op ok_add (OkE.op ok_sub (OkE.var 8) (OkE.var 7)) (OkE.con fun _ => .int _)))))
      (OkS.par (fun _ => ⟨by decide, by decide⟩) (OkE.w (OkE.cb ok_max (OkA.cons (OkE.con fun _ => .int _) (OkA.cons (OkE.op ok_sub (OkE.var 7) (OkE.con fun _ => .int _)) OkA.nil)))) (OkE.w (OkE.cb ok_min (OkA.cons (OkE.var 8) (OkA.cons (OkE.op ok_sub (OkE.op ok_sub (OkE.var 1) (OkE.var 11)) (OkE.con fun _ => .int _)) OkA.nil))))))))
      (OkS.ret (OkE.w (OkE.and (OkE.op ok_eqD (OkW.e (OkW.call (OkA.cons (OkE.var 6) OkA.nil))) (OkE.cb ok_tuple (OkA.cons (OkE.var 9) OkA.nil))) (OkE.op ok_eq (OkW.e (OkW.call (OkA.cons (OkE.var 6) OkA.nil))) (OkE.var 10))))))))))))) h
end
def s_hill_right_0 : M Fl :=
    (setS 1 (pl (op2 addD (con (.int 1)) (fz (callB 0 (F_take 2) (acons (con (.int 15)) anil))))))
def s_hill_right_1 : M Fl :=
    (setS 2 (pl (fz (callB 0 F_souls (acons (get 1) anil)))))
def s_hill_right_2 : M Fl :=
    (setS 3 (pl (fz (callB 0 (F_take 2) (acons (get 1) anil)))))
def s_hill_right_3 : M Fl :=
    (setS 4 (pl (op2 ixD (get 2) (op1 negD (con (.int 1))))))
def s_hill_right_4 : M Fl :=
    (setS 5 (pl (fz (callB 0 F_strewn (acons (slD (get 2) poN (poS (op1 negD (con (.int 1))))) anil)))))
def s_hill_right_5 : M Fl :=
    (setS 6 (pl (cb tupleD (acons (op2 catD (op2 catD (cb sortD (acons (slD (get 5) poN (poS (get 3))) anil)) (lstD (acons (get 4) anil))) (op1 revD (cb sortD (acons (slD (get 5) (poS (get 3)) poN) anil)))) anil))))
def s_hill_right_6 : M Fl :=
    (ifS (orT (tb1 (op2 (eqvD true) (fz (callA F_exchanges (acons (get 6) anil))) (lstD anil))) (orT (tb1 (op2 (eqA true) (fz (callA F_count_rows (acons (get 6) anil))) (con (.int 1)))) (tb1 (op2 (eqvD true) (fz (callA F_all_rows (acons (get 6) anil))) (lstD (acons (get 6) anil)))))) (retS (pl (con (.bool false)))) nxt)
def s_hill_right_7 : M Fl :=
    (retS (pl (orV (op2 ltD (get 1) (con (.int 2))) (orV (notV (fz (callA F_leads (acons (get 6) (acons (cb tupleD (acons (get 2) anil)) anil))))) (op2 (eqvD false) (get 6) (cb tupleD (acons (get 2) anil)))))))
def f_hill_right : M Fl :=
    (thenS s_hill_right_0 (thenS s_hill_right_1 (thenS s_hill_right_2 (thenS s_hill_right_3 (thenS s_hill_right_4 (thenS s_hill_right_5 (thenS s_hill_right_6 s_hill_right_7)))))))
def F_hill_right : List PyData → List PyData → Option (Wv × List PyData) := runB 1 7 f_hill_right
section
variable {P : Program} {w : World} {K : PySem.W.Frag} {mg : Str → Option Value} {base : Heap} {f : Addr} {fd : FuncData}
theorem dk_hill_right (F : Fun K "_law_hill_right" "_law_hill_right" S_hill_right f fd) {g_take : Addr} {d_take : FuncData} (G_take : FnOk P w K mg base CX0 2 g_take d_take P_take (spB K (F_take 2))) (b_take : Binds K d_take P_take []) (k_take : PySem.W.keepIn K (.ref g_take) = true) (m_take : mg "_law_take" = some (.ref g_take)) {g_souls : Addr} {d_souls : FuncData} (G_souls : FnOk P w K mg base CX0 4 g_souls d_souls P_souls (spB K F_souls)) (b_souls : Binds K d_souls P_souls []) (k_souls : PySem.W.keepIn K (.ref g_souls) = true) (m_souls : mg "_law_souls" = some (.ref g_souls)) {g_strewn : Addr} {d_strewn : FuncData} (G_strewn : FnOk P w K mg base CX0 3 g_strewn d_strewn P_strewn (spB K F_strewn)) (b_strewn : Binds K d_strewn P_strewn []) (k_strewn : PySem.W.keepIn K (.ref g_strewn) = true) (m_strewn : mg "_law_strewn" = some (.ref g_strewn)) {g_exchanges : Addr} {d_exchanges : FuncData} (G_exchanges : FnOk P w K mg base CX0 3 g_exchanges d_exchanges P_exchanges (spA K F_exchanges)) (b_exchanges : Binds K d_exchanges P_exchanges []) (k_exchanges : PySem.W.keepIn K (.ref g_exchanges) = true) (m_exchanges : mg "exchanges" = some (.ref g_exchanges)) {g_count_rows : Addr} {d_count_rows : FuncData} (G_count_rows : FnOk P w K mg base CX0 5 g_count_rows d_count_rows P_count_rows (spA K F_count_rows)) (b_count_rows : Binds K d_count_rows P_count_rows []) (k_count_rows : PySem.W.keepIn K (.ref g_count_rows) = true) (m_count_rows : mg "count_rows" = some (.ref g_count_rows)) {g_all_rows : Addr} {d_all_rows : FuncData} (G_all_rows : FnOk P w K mg base CX0 7 g_all_rows d_all_rows P_all_rows (spA K F_all_rows)) (b_all_rows : Binds K d_all_rows P_all_rows []) (k_all_rows : PySem.W.keepIn K (.ref g_all_rows) = true) (m_all_rows : mg "all_rows" = some (.ref g_all_rows)) {g_leads : Addr} {d_leads : FuncData} (G_leads : FnOk P w K mg base CX0 6 g_leads d_leads P_leads (spA K F_leads)) (b_leads : Binds K d_leads P_leads []) (k_leads : PySem.W.keepIn K (.ref g_leads) = true) (m_leads : mg "leads" = some (.ref g_leads)) (B : Blt mg) : FnOk P w K mg base CX0 8 f fd P_hill_right (spB K F_hill_right) := by
  refine F.ok sc_hill_right (fun vs H Q E h => lenB h) (fun cdv A outer s H vs Q E hr h => ⟨_, (Evl.pss_cut (ps_set (i := 1) sc_hill_right.nd rfl (by first | exact Or.inl rfl | exact Or.inr rfl) (pe_op op_add pe_int (pe_call G_take (hr.mono (by decide)) rfl m_take k_take b_take .nil pass0 (pa_cons (pv 0) (pa_cons pe_int pa_nil)))))
      (Evl.pss_cut (ps_set (i := 2) sc_hill_right.nd rfl (by first | exact Or.inl rfl | exact Or.inr rfl) (pe_call G_souls (hr.mono (by decide)) rfl m_souls k_souls b_souls .nil pass0 (pa_cons (pv 0) (pa_cons (pv 1) pa_nil))))
      (Evl.pss_cut (ps_set (i := 3) sc_hill_right.nd rfl (by first | exact Or.inl rfl | exact Or.inr rfl) (pe_call G_take (hr.mono (by decide)) rfl m_take k_take b_take .nil pass0 (pa_cons (pv 0) (pa_cons (pv 1) pa_nil))))
      (Evl.pss_cut (ps_set (i := 4) sc_hill_right.nd rfl (by first | exact Or.inl rfl | exact Or.inr rfl) (pe_ix (k_ix (K := K) rfl) (pv 2) (pe_un un_neg pe_int) (fun _ _ => rfl)))
      (Evl.pss_cut (ps_set (i := 5) sc_hill_right.nd rfl (by first | exact Or.inl rfl | exact Or.inr rfl) (pe_call G_strewn (hr.mono (by decide)) rfl m_strewn k_strewn b_strewn .nil pass0 (pa_cons (pv 0) (pa_cons (pe_slice (k_cut (K := K) rfl) (pv 2) po_none (po_some (pe_un un_neg pe_int))) pa_nil))))
      (Evl.pss_cut (ps_set (i := 6) sc_hill_right.nd rfl (by first | exact Or.inl rfl | exact Or.inr rfl) (pe_callTy (k_tup (K := K) rfl) rfl B.tuple (by decide +kernel) (pa_cons (pe_op op_catL (pe_op op_catL (pe_callB (k_sorted (K := K) rfl) rfl B.sorted (by decide +kernel) (pa_cons (pe_slice (k_cut (K := K) rfl) (pv 5) po_none (po_some (pv 3))) pa_nil)) (pe_lst (pa_cons (pv 4) pa_nil))) (k_revW (K := K) rfl (pe_callB (k_sorted (K := K) rfl) rfl B.sorted (by decide +kernel) (pa_cons (pe_slice (k_cut (K := K) rfl) (pv 5) (po_some (pv 3)) po_none) pa_nil)))) pa_nil)))
      (Evl.pss_cut (ps_if (PW.pt (pw_or (pt_cmpR (k_neD (K := K) rfl hr.units) (pe_call G_exchanges (hr.mono (by decide)) rfl m_exchanges k_exchanges b_exchanges .nil pass0 (pa_cons (pv 6) pa_nil)) (pe_lst pa_nil) (nomark _)) (pw_or (pt_cmpR op_ne (pe_call G_count_rows (hr.mono (by decide)) rfl m_count_rows k_count_rows b_count_rows .nil pass0 (pa_cons (pv 6) pa_nil)) pe_int (nomark _)) (pw_or1 (pt_cmpR (k_neD (K := K) rfl hr.units) (pe_call G_all_rows (hr.mono (by decide)) rfl m_all_rows k_all_rows b_all_rows .nil pass0 (pa_cons (pv 6) pa_nil)) (pe_lst (pa_cons (pv 6) pa_nil)) (nomark _)))))) (pss_one (ps_ret pe_bl)) pss_nil)
      (pss_one (ps_ret (pe_or (pe_cmpR op_lt (pv 1) pe_int (nomark _)) (pe_or (pe_not (pe_call G_leads (hr.mono (by decide)) rfl m_leads k_leads b_leads .nil pass0 (pa_cons (pv 6) (pa_cons (pe_callTy (k_tup (K := K) rfl) rfl B.tuple (by decide +kernel) (pa_cons (pv 2) pa_nil)) pa_nil)))) (pe_one (pe_cmpR (k_eqD (K := K) rfl hr.units) (pv 6) (pe_callTy (k_tup (K := K) rfl) rfl B.tuple (by decide +kernel) (pa_cons (pv 2) pa_nil)) (nomark _)))))))))))))), ?_⟩)
  exact finB (N := N_hill_right) (by unfold f_hill_right s_hill_right_7 s_hill_right_6 s_hill_right_5 s_hill_right_4 s_hill_right_3 s_hill_right_2 s_hill_right_1 s_hill_right_0; exact (OkS.cut (OkS.set (fun _ => by decide) (OkE.w (OkE.op ok_add (OkE.con fun _ => .int _) (OkW.e (OkW.callB (OkA.cons (OkE.con fun _ => .int _) OkA.nil))))))
      (OkS.cut (OkS.set (fun _ => by decide) (OkE.w (OkW.e (OkW.callB (OkA.cons (OkE.var 1) OkA.nil)))))
      (OkS.cut (OkS.set (fun _ => by decide) (OkE.w (OkW.e (OkW.callB (OkA.cons (OkE.var 1) OkA.nil)))))
      (OkS.cut (OkS.set (fun _ => by decide) (OkE.w (OkE.op ok_ix (OkE.var 2) (OkE.un ok_neg (OkE.con fun _ => .int _)))))
      (OkS.cut (OkS.set (fun _ => by decide) (OkE.w (OkW.e (OkW.callB (OkA.cons (OkE.sl (OkE.var 2) OkP.none (OkP.some (OkE.un ok_neg (OkE.con fun _ => .int _)))) OkA.nil)))))
      (OkS.cut (OkS.set (fun _ => by decide) (OkE.w (OkE.cb ok_tuple (OkA.cons (OkE.op ok_catL (OkE.op ok_catL (OkE.cb ok_sort (OkA.cons (OkE.sl (OkE.var 5) OkP.none (OkP.some (OkE.var 3))) OkA.nil)) (OkE.lst (OkA.cons (OkE.var 4) OkA.nil))) (OkE.rev (OkE.cb ok_sort (OkA.cons (OkE.sl (OkE.var 5) (OkP.some (OkE.var 3)) OkP.none) OkA.nil)))) OkA.nil))))
      (OkS.cut (OkS.ife (OkT.or (OkT.test (OkE.op ok_neD (OkW.e (OkW.call (OkA.cons (OkE.var 6) OkA.nil))) (OkE.lst OkA.nil))) (OkT.or (OkT.test (OkE.op ok_ne (OkW.e (OkW.call (OkA.cons (OkE.var 6) OkA.nil))) (OkE.con fun _ => .int _))) (OkT.test (OkE.op ok_neD (OkW.e (OkW.call (OkA.cons (OkE.var 6) OkA.nil))) (OkE.lst (OkA.cons (OkE.var 6) OkA.nil)))))) (OkS.ret (OkE.w (OkE.con fun _ => .bl _))) OkS.nil)
      (OkS.ret (OkE.w (OkE.or (OkE.op ok_lt (OkE.var 1) (OkE.con fun _ => .int _)) (OkE.or (OkE.not (OkW.e (OkW.call (OkA.cons (OkE.var 6) (OkA.cons (OkE.cb ok_tuple (OkA.cons (OkE.var 2) OkA.nil)) OkA.nil))))) (OkE.op ok_eqD (OkE.var 6) (OkE.cb ok_tuple (OkA.cons (OkE.var 2) OkA.nil))))))))))))))) h
end
def s_shared_right_0 : M Fl :=
    (setS 1 (pl (op2 addD (con (.int 1)) (fz (callB 0 (F_take 2) (acons (con (.int 7)) anil))))))
def s_shared_right_1 : M Fl :=
    (setS 2 (pl (fz (callB 0 F_souls (acons (op2 addD (op2 mulD (con (.int 2)) (get 1)) (con (.int 1))) anil)))))
def s_shared_right_2 : M Fl :=
    (parS 3 4 (pl (fz (callB 0 F_strewn (acons (slD (get 2) poN (poS (get 1))) anil)))) (pl (fz (callB 0 F_strewn (acons (slD (get 2) (poS (get 1)) poN) anil)))))
def s_shared_right_3 : M Fl :=
    (setS 5 (pl (lstD (acons (op2 ixD (get 4) (con (.int 0))) anil))))
def b_shared_right_4 : M Fl :=
    (setS 5 (pl (op2 catD (get 5) (lstD (acons (op2 ixD (get 3) (get 6)) (acons (op2 ixD (get 4) (op2 addD (get 6) (con (.int 1)))) anil))))))
def s_shared_right_4 : M Fl :=
    (forS (argI rngD (acons (get 1) anil)) (gN 6) b_shared_right_4)
def s_shared_right_5 : M Fl :=
    (setS 7 (pl (con (.int 1))))
def b_shared_right_6 : M Fl :=
    (setS 7 (pl (op2 mulD (get 7) (op2 addD (get 6) (con (.int 1))))))
def s_shared_right_6 : M Fl :=
    (forS (argI rngD (acons (op2 addD (get 1) (con (.int 1))) anil)) (gN 6) b_shared_right_6)
def s_shared_right_7 : M Fl :=
    (retS (pl (andV (op2 (eqA false) (op2 modD (fz (callA F_count_rows (acons (cb tupleD (acons (get 5) anil)) anil))) (get 7)) (con (.int 0))) (op2 (eqvD false) (op2 ixD (fz (callA F_runs (acons (cb tupleD (acons (get 5) anil)) anil))) (get 1)) (tupD (acons (con (.int 0)) (acons (get 1) anil)))))))
def f_shared_right : M Fl :=
    (thenS s_shared_right_0 (thenS s_shared_right_1 (thenS s_shared_right_2 (thenS s_shared_right_3 (thenS s_shared_right_4 (thenS s_shared_right_5 (thenS s_shared_right_6 s_shared_right_7)))))))
def F_shared_right : List PyData → List PyData → Option (Wv × List PyData) := runB 1 8 f_shared_right
section
variable {P : Program} {w : World} {K : PySem.W.Frag} {mg : Str → Option Value} {base : Heap} {f : Addr} {fd : FuncData}
theorem dk_shared_right (F : Fun K "_law_shared_right" "_law_shared_right" S_shared_right f fd) {g_take : Addr} {d_take : FuncData} (G_take : FnOk P w K mg base CX0 2 g_take d_take P_take (spB K (F_take 2))) (b_take : Binds K d_take P_take []) (k_take : PySem.W.keepIn K (.ref g_take) = true) (m_take : mg "_law_take" = some (.ref g_take)) {g_souls : Addr} {d_souls : FuncData} (G_souls : FnOk P w K mg base CX0 4 g_souls d_souls P_souls (spB K F_souls)) (b_souls : Binds K d_souls P_souls []) (k_souls : PySem.W.keepIn K (.ref g_souls) = true) (m_souls : mg "_law_souls" = some (.ref g_souls)) {g_strewn : Addr} {d_strewn : FuncData} (G_strewn : FnOk P w K mg base CX0 3 g_strewn d_strewn P_strewn (spB K F_strewn)) (b_strewn : Binds K d_strewn P_strewn []) (k_strewn : PySem.W.keepIn K (.ref g_strewn) = true) (m_strewn : mg "_law_strewn" = some (.ref g_strewn)) {g_runs : Addr} {d_runs : FuncData} (G_runs : FnOk P w K mg base CX0 4 g_runs d_runs P_runs (spA K F_runs)) (b_runs : Binds K d_runs P_runs []) (k_runs : PySem.W.keepIn K (.ref g_runs) = true) (m_runs : mg "runs" = some (.ref g_runs)) {g_count_rows : Addr} {d_count_rows : FuncData} (G_count_rows : FnOk P w K mg base CX0 5 g_count_rows d_count_rows P_count_rows (spA K F_count_rows)) (b_count_rows : Binds K d_count_rows P_count_rows []) (k_count_rows : PySem.W.keepIn K (.ref g_count_rows) = true) (m_count_rows : mg "count_rows" = some (.ref g_count_rows)) (B : Blt mg) : FnOk P w K mg base CX0 6 f fd P_shared_right (spB K F_shared_right) := by
  refine F.ok sc_shared_right (fun vs H Q E h => lenB h) (fun cdv A outer s H vs Q E hr h => ⟨_, (Evl.pss_cut (ps_set (i := 1) sc_shared_right.nd rfl (by first | exact Or.inl rfl | exact Or.inr rfl) (pe_op op_add pe_int (pe_call G_take (hr.mono (by decide)) rfl m_take k_take b_take .nil pass0 (pa_cons (pv 0) (pa_cons pe_int pa_nil)))))
      (Evl.pss_cut (ps_set (i := 2) sc_shared_right.nd rfl (by first | exact Or.inl rfl | exact Or.inr rfl) (pe_call G_souls (hr.mono (by decide)) rfl m_souls k_souls b_souls .nil pass0 (pa_cons (pv 0) (pa_cons (pe_op op_add (pe_op op_mul pe_int (pv 1)) pe_int) pa_nil))))
      (Evl.pss_cut (ps_par (i := 3) (j := 4) rfl sc_shared_right.nd rfl rfl (by decide) rfl rfl (pa_cons (pe_call G_strewn (hr.mono (by decide)) rfl m_strewn k_strewn b_strewn .nil pass0 (pa_cons (pv 0) (pa_cons (pe_slice (k_cut (K := K) rfl) (pv 2) po_none (po_some (pv 1))) pa_nil))) (pa_cons (pe_call G_strewn (hr.mono (by decide)) rfl m_strewn k_strewn b_strewn .nil pass0 (pa_cons (pv 0) (pa_cons (pe_slice (k_cut (K := K) rfl) (pv 2) (po_some (pv 1)) po_none) pa_nil))) pa_nil)) rfl)
      (Evl.pss_cut (ps_set (i := 5) sc_shared_right.nd rfl (by first | exact Or.inl rfl | exact Or.inr rfl) (pe_lst (pa_cons (pe_ix (k_ix (K := K) rfl) (pv 4) pe_int (fun _ _ => rfl)) pa_nil)))
      (Evl.pss_cut (ps_for PassesOwn.never rfl (pi_range1 rfl B.range (pa_cons (pv 1) pa_nil)) (pg_name (i := 6) sc_shared_right.nd rfl (by first | exact Or.inl rfl | exact Or.inr rfl))
      (pss_one (ps_set (i := 5) sc_shared_right.nd rfl (by first | exact Or.inl rfl | exact Or.inr rfl) (pe_op op_catL (pv 5) (pe_lst (pa_cons (pe_ix (k_ix (K := K) rfl) (pv 3) (pv 6) (fun _ _ => rfl)) (pa_cons (pe_ix (k_ix (K := K) rfl) (pv 4) (pe_op op_add (pv 6) pe_int) (fun _ _ => rfl)) pa_nil)))))))
      (Evl.pss_cut (ps_set (i := 7) sc_shared_right.nd rfl (by first | exact Or.inl rfl | exact Or.inr rfl) pe_int)
      (Evl.pss_cut (ps_for PassesOwn.never rfl (pi_range1 rfl B.range (pa_cons (pe_op op_add (pv 1) pe_int) pa_nil)) (pg_name (i := 6) sc_shared_right.nd rfl (by first | exact Or.inl rfl | exact Or.inr rfl))
      (pss_one (ps_set (i := 7) sc_shared_right.nd rfl (by first | exact Or.inl rfl | exact Or.inr rfl) (pe_op op_mul (pv 7) (pe_op op_add (pv 6) pe_int)))))
      (pss_one (ps_ret (pe_and (pe_cmpR op_eq (pe_op op_mod (pe_call G_count_rows (hr.mono (by decide)) rfl m_count_rows k_count_rows b_count_rows .nil pass0 (pa_cons (pe_callTy (k_tup (K := K) rfl) rfl B.tuple (by decide +kernel) (pa_cons (pv 5) pa_nil)) pa_nil)) (pv 7)) pe_int (nomark _)) (pe_one (pe_cmpR (k_eqD (K := K) rfl hr.units) (pe_ix (k_ix (K := K) rfl) (pe_call G_runs (hr.mono (by decide)) rfl m_runs k_runs b_runs .nil pass0 (pa_cons (pe_callTy (k_tup (K := K) rfl) rfl B.tuple (by decide +kernel) (pa_cons (pv 5) pa_nil)) pa_nil)) (pv 1) (fun _ _ => rfl)) (pe_tup (pa_cons pe_int (pa_cons (pv 1) pa_nil))) (nomark _))))))))))))), ?_⟩)
  exact finB (N := N_shared_right) (by unfold f_shared_right s_shared_right_7 s_shared_right_6 b_shared_right_6 s_shared_right_5 s_shared_right_4 b_shared_right_4 s_shared_right_3 s_shared_right_2 s_shared_right_1 s_shared_right_0; exact (OkS.cut (OkS.set (fun _ => by decide) (OkE.w (OkE.op ok_add (OkE.con fun _ => .int _) (OkW.e (OkW.callB (OkA.cons (OkE.con fun _ => .int _) OkA.nil))))))
      (OkS.cut (OkS.set (fun _ => by decide) (OkE.w (OkW.e (OkW.callB (OkA.cons (OkE.op ok_add (OkE.op ok_mul (OkE.con fun _ => .int _) (OkE.var 1)) (OkE.con fun _ => .int _)) OkA.nil)))))
      (OkS.cut (OkS.par (fun _ => ⟨by decide, by decide⟩) (OkE.w (OkW.e (OkW.callB (OkA.cons (OkE.sl (OkE.var 2) OkP.none (OkP.some (OkE.var 1))) OkA.nil)))) (OkE.w (OkW.e (OkW.callB (OkA.cons (OkE.sl (OkE.var 2) (OkP.some (OkE.var 1)) OkP.none) OkA.nil)))))
      (OkS.cut (OkS.set (fun _ => by decide) (OkE.w (OkE.lst (OkA.cons (OkE.op ok_ix (OkE.var 4) (OkE.con fun _ => .int _)) OkA.nil))))
      (OkS.cut (OkS.for (OkI.range1 (OkA.cons (OkE.var 1) OkA.nil)) (OkG.name 6) (fun _ => by decide) (OkS.set (fun _ => by decide) (OkE.w (OkE.op ok_catL (OkE.var 5) (OkE.lst (OkA.cons (OkE.op ok_ix (OkE.var 3) (OkE.var 6)) (OkA.cons (OkE.op ok_ix (OkE.var 4) (OkE.op ok_add (OkE.var 6) (OkE.con fun _ => .int _))) OkA.nil)))))))
      (OkS.cut (OkS.set (fun _ => by decide) (OkE.w (OkE.con fun _ => .int _)))
      (OkS.cut (OkS.for (OkI.range1 (OkA.cons (OkE.op ok_add (OkE.var 1) (OkE.con fun _ => .int _)) OkA.nil)) (OkG.name 6) (fun _ => by decide) (OkS.set (fun _ => by decide) (OkE.w (OkE.op ok_mul (OkE.var 7) (OkE.op ok_add (OkE.var 6) (OkE.con fun _ => .int _))))))
      (OkS.ret (OkE.w (OkE.and (OkE.op ok_eq (OkE.op ok_mod (OkW.e (OkW.call (OkA.cons (OkE.cb ok_tuple (OkA.cons (OkE.var 5) OkA.nil)) OkA.nil))) (OkE.var 7)) (OkE.con fun _ => .int _)) (OkE.op ok_eqD (OkE.op ok_ix (OkW.e (OkW.call (OkA.cons (OkE.cb ok_tuple (OkA.cons (OkE.var 5) OkA.nil)) OkA.nil))) (OkE.var 1)) (OkE.tup (OkA.cons (OkE.con fun _ => .int _) (OkA.cons (OkE.var 1) OkA.nil))))))))))))))) h
end
def f_right : M Fl :=
    (retS (pl (andV (fz (callB 0 F_valley_right anil)) (andV (fz (callB 0 F_hill_right anil)) (fz (callB 0 F_shared_right anil))))))
def F_right : List PyData → List PyData → Option (Wv × List PyData) := runB 1 1 f_right
section
variable {P : Program} {w : World} {K : PySem.W.Frag} {mg : Str → Option Value} {base : Heap} {f : Addr} {fd : FuncData}
theorem dk_right (F : Fun K "_law_right" "_law_right" S_right f fd) {g_valley_right : Addr} {d_valley_right : FuncData} (G_valley_right : FnOk P w K mg base CX0 6 g_valley_right d_valley_right P_valley_right (spB K F_valley_right)) (b_valley_right : Binds K d_valley_right P_valley_right []) (k_valley_right : PySem.W.keepIn K (.ref g_valley_right) = true) (m_valley_right : mg "_law_valley_right" = some (.ref g_valley_right)) {g_hill_right : Addr} {d_hill_right : FuncData} (G_hill_right : FnOk P w K mg base CX0 8 g_hill_right d_hill_right P_hill_right (spB K F_hill_right)) (b_hill_right : Binds K d_hill_right P_hill_right []) (k_hill_right : PySem.W.keepIn K (.ref g_hill_right) = true) (m_hill_right : mg "_law_hill_right" = some (.ref g_hill_right)) {g_shared_right : Addr} {d_shared_right : FuncData} (G_shared_right : FnOk P w K mg base CX0 6 g_shared_right d_shared_right P_shared_right (spB K F_shared_right)) (b_shared_right : Binds K d_shared_right P_shared_right []) (k_shared_right : PySem.W.keepIn K (.ref g_shared_right) = true) (m_shared_right : mg "_law_shared_right" = some (.ref g_shared_right)) (B : Blt mg) : FnOk P w K mg base CX0 9 f fd P_right (spB K F_right) := by
  refine F.ok sc_right (fun vs H Q E h => lenB h) (fun cdv A outer s H vs Q E hr h => ⟨_, (pss_one (ps_ret (pe_and (pe_call G_valley_right (hr.mono (by decide)) rfl m_valley_right k_valley_right b_valley_right .nil pass0 (pa_cons (pv 0) pa_nil)) (pe_and (pe_call G_hill_right (hr.mono (by decide)) rfl m_hill_right k_hill_right b_hill_right .nil pass0 (pa_cons (pv 0) pa_nil)) (pe_one (pe_call G_shared_right (hr.mono (by decide)) rfl m_shared_right k_shared_right b_shared_right .nil pass0 (pa_cons (pv 0) pa_nil))))))), ?_⟩)
  exact finB (N := N_right) (by unfold f_right; exact (OkS.ret (OkE.w (OkE.and (OkW.e (OkW.callB OkA.nil)) (OkE.and (OkW.e (OkW.callB OkA.nil)) (OkW.e (OkW.callB OkA.nil))))))) h
end
def b_law_0 : M Fl :=
    (thenS (setS 2 (callA F_box (acons (get 0) (acons (get 1) anil))))
    (ifS (notT (tb1 (cb allD (acons (fz (lcW (argI rngD (acons (con (.int 2)) anil)) (gN 3) yesT (fz (callB 2 F_right anil)) [3])) anil)))) (retS (pl (con (.bool false)))) nxt))
def s_law_0 : M Fl :=
    (forS (argI rngD (acons (con (.int 2)) anil)) (gN 1) b_law_0)
def s_law_1 : M Fl :=
    (retS (pl (con (.bool true))))
def f_law : M Fl :=
    (thenS s_law_0 s_law_1)
def F_law : List PyData → Option Wv := runA 1 4 f_law
section
variable {P : Program} {w : World} {K : PySem.W.Frag} {mg : Str → Option Value} {base : Heap} {f : Addr} {fd : FuncData}
theorem dk_law (F : Fun K "law" "law" S_law f fd) {g_box : Addr} {d_box : FuncData} (G_box : FnOk P w K mg base CX0 2 g_box d_box P_box (spA K F_box)) (b_box : Binds K d_box P_box []) (k_box : PySem.W.keepIn K (.ref g_box) = true) (m_box : mg "_law_box" = some (.ref g_box)) {g_right : Addr} {d_right : FuncData} (G_right : FnOk P w K mg base CX0 9 g_right d_right P_right (spB K F_right)) (b_right : Binds K d_right P_right []) (k_right : PySem.W.keepIn K (.ref g_right) = true) (m_right : mg "_law_right" = some (.ref g_right)) (B : Blt mg) : FnG P w K mg base 10 f fd P_law (spA K F_law) := by
  refine Ov.Fun.okG F sc_law (fun vs H Q E h => lenA h) (fun cdv A outer s H vs Q E hG hr h => ⟨_, (Evl.pss_cut (ps_for PassesOwn.never rfl (pi_range1 rfl B.range (pa_cons pe_int pa_nil)) (pg_name (i := 1) sc_law.nd rfl (by first | exact Or.inl rfl | exact Or.inr rfl))
      (Evl.pss_cut (ps_set (i := 2) sc_law.nd rfl (by first | exact Or.inl rfl | exact Or.inr rfl) (pe_call G_box (hr.mono (by decide)) rfl m_box k_box b_box .nil pass0 (pa_cons (pv 0) (pa_cons (pv 1) pa_nil))))
      (pss_one (ps_if (pt_not (pt_val (pe_callB (k_all (K := K) rfl rfl) rfl B.all (by decide +kernel) (pa_cons (pe_lc (own := [("_law_turn", 3)]) (g := (gName 3)) rfl sc_law.nd (pi_range1 rfl B.range (pa_cons pe_int pa_nil)) (blkOk_by (own := [("_law_turn", 3)]) (N := ["_law_script", "_law_k", "_law_box_here", "_law_turn"]) (sc := defScope S_law) (by decide +kernel)) (fun _ _ _ _ _ => by exact (pg_name (i := 3) sc_law.nd rfl (by first | exact Or.inl rfl | exact Or.inr rfl))) (fun _ _ _ _ _ => pts_nil) (fun _ _ _ _ _ => (pe_call G_right (hr.mono (by decide)) rfl m_right k_right b_right .nil pass0 (pa_cons (pv 2) pa_nil)))) pa_nil)))) (pss_one (ps_ret pe_bl)) pss_nil))))
      (pss_one (ps_ret pe_bl))), ?_⟩)
  exact finA (N := N_law) (by unfold f_law s_law_1 s_law_0 b_law_0; exact (OkS.cut (OkS.for (OkI.range1 (OkA.cons (OkE.con fun _ => .int _) OkA.nil)) (OkG.name 1) (fun z => by cases z) (OkS.cut (OkS.set (fun z => by cases z) (OkW.call (OkA.cons (OkE.var 0) (OkA.cons (OkE.var 1) OkA.nil))))
      (OkS.ife (OkT.not (OkT.val (OkE.cb ok_all (OkA.cons (OkW.e (OkW.lc (vs := [3]) (OkI.range1 (OkA.cons (OkE.con fun _ => .int _) OkA.nil)) (OkG.name 3) (by decide) OkT.yes (OkW.e (OkW.callB OkA.nil)))) OkA.nil)))) (OkS.ret (OkE.w (OkE.con fun _ => .bl _))) OkS.nil)))
      (OkS.ret (OkE.w (OkE.con fun _ => .bl _))))) h
end
end Ov

set_option Elab.async false
set_option linter.all false
set_option maxRecDepth 100000
set_option maxHeartbeats 4000000
namespace Ov
open PySem L2

def Bok (n : Int) (bs : List PyData) : Prop := ∃ b0 b1 b2 : Int, bs = [.int b0, .int b1, .int b2] ∧ 0 ≤ b0 ∧ 0 ≤ b1 ∧ b1 < 2 ^ 62 ∧ 0 ≤ b2 ∧ b2 ≤ n
theorem Bok.mono {n m : Int} {bs : List PyData} (h : Bok n bs) (e : n ≤ m) : Bok m bs := by
  obtain ⟨b0, b1, b2, rfl, p0, p1, p1', p2, p2'⟩ := h
  exact ⟨_, _, _, rfl, p0, p1, p1', p2, by omega⟩
theorem pMod_ok {i j : Int} (h : 0 < j) : pMod i j = true := decide_eq_true h
theorem pDiv_ok {i j : Int} (h : 0 < j) (h2 : j < 1073741824) : pDiv i j = true := decide_eq_true ⟨h, h2⟩
theorem pMul_r {i j : Int} (h : -(2 ^ 64) < j) (h2 : j < 2 ^ 64) : pMul i j = true := by
  unfold pMul
  rw [decide_eq_true (p := -(2 ^ 64) < j ∧ j < 2 ^ 64) ⟨h, h2⟩, Bool.or_true]
def tkV (b1 b2 below : Int) : Int := ((((((b1 + 48271 * (b2 + 1)) * (39373 + (b2 + 1))) % 2147483647 + (b2 + 1) + b1 / 1000003) * ((((b1 + 48271 * (b2 + 1)) * (39373 + (b2 + 1))) % 2147483647) % 40009 + 7)) % 2147483629 * 48271 + ((b1 + 48271 * (b2 + 1)) * (39373 + (b2 + 1))) % 2147483647) % 2147483587 / 64) % below
theorem take_small {n : Int} {bs : List PyData} {k : Nat} (h : Bok n bs) (hn : n ≤ 10 ^ 12) {below : Int} (h1 : 1 ≤ below) (h2 : below ≤ 10 ^ 7) : ∃ r bs', F_take (k + 1) bs [.int below] = some (.dat (.int r), bs') ∧ 0 ≤ r ∧ r < below ∧ Bok (n + 1) bs' := by
  obtain ⟨b0, b1, b2, rfl, p0, p1, p1', p2, p2'⟩ := h
  by_cases c0 : 0 < b0
  · refine ⟨b0 % below, [.int (b0 / below), .int b1, .int b2], runB_eq rfl ?_, Int.emod_nonneg _ (by omega), Int.emod_lt_of_pos _ (by omega), _, _, _, rfl, Int.ediv_nonneg p0 (by omega), p1, p1', p2, by omega⟩
    unfold f_take
    simp [env0, v_bind, v_ok, v_none, v_pure, v_lift, v_liftN, v_con, v_get, v_gkd, v_gko, v_gkc, v_vwd, v_vws, v_ok1, v_ownD, v_dctD, v_dk1, v_setOwn, v_putM, v_op2, v_op1, v_anil, v_acons, v_vws0, v_vwsC, v_cb, v_tupD, v_lstD, v_lstW, v_listW, v_dds0, v_ddsC, v_asB, v_tb1, v_andT, v_orT, v_notT, v_andV, v_orV, v_notV, v_ofB, v_ifE, v_pl, v_toW, v_fz, v_ofWd, v_ofWo, v_nxt, v_thenS, v_exprS, v_retS, v_retN, v_ifS, v_setS, v_parS, v_setIx, v_asD, v_asI, v_mthE, v_callA, v_callB, v_forS, v_argI, v_seqI, v_slD, v_poN, v_poS, v_isiE, v_isiE2, v_isNE, v_dnew, v_dinT, v_dputS, v_sortDct, v_rgE, v_rg2, v_unS, v_catW, v_chainE, v_add, v_sub, v_lt, v_le, v_gt, v_ge, v_eqI, v_eqB, v_eqS, v_ixL, v_ixT, v_lenL, v_lenT, v_abs, v_intI, v_intB, v_min, v_max, v_chk, c0, atI, ixN, v_mod, v_div, pMod_ok (show 0 < below by omega), pDiv_ok (show 0 < below by omega) (show below < 1073741824 by omega)]
  · have z : b0 = 0 := by omega
    have c1 : ¬ (10 : Int) ^ 7 < below := by omega
    have hp : pPow 10 7 = true := by decide
    refine ⟨tkV b1 b2 below, [.int 0, .int b1, .int (b2 + 1)], runB_eq rfl ?_, ?_, ?_, _, _, _, rfl, Int.le_refl _, p1, p1', by omega, by omega⟩
    · unfold f_take
      have q1 : pMul 48271 (b2 + 1) = true := by unfold pMul; simp
      have q2 : pMul (b1 + 48271 * (b2 + 1)) (39373 + (b2 + 1)) = true := pMul_r (by omega) (by omega)
      have q3 : ∀ x y : Int, pMul x (y % 40009 + 7) = true := fun x y => pMul_r (by omega) (by omega)
      have q4 : ∀ x : Int, pMul x 48271 = true := fun x => pMul_r (by decide) (by decide)
      have m1 : ∀ x : Int, pMod x 2147483647 = true := fun x => pMod_ok (by decide)
      have m2 : ∀ x : Int, pMod x 2147483629 = true := fun x => pMod_ok (by decide)
      have m3 : ∀ x : Int, pMod x 2147483587 = true := fun x => pMod_ok (by decide)
      have m4 : ∀ x : Int, pMod x 40009 = true := fun x => pMod_ok (by decide)
      have m5 : ∀ x : Int, pMod x below = true := fun x => pMod_ok (by omega)
      have d1 : ∀ x : Int, pDiv x 1000003 = true := fun x => pDiv_ok (by decide) (by decide)
      have d2 : ∀ x : Int, pDiv x 64 = true := fun x => pDiv_ok (by decide) (by decide)
      have c1' : ¬ (10000000 : Int) < below := by omega
      unfold tkV
      simp [env0, v_bind, v_ok, v_none, v_pure, v_lift, v_liftN, v_con, v_get, v_gkd, v_gko, v_gkc, v_vwd, v_vws, v_ok1, v_ownD, v_dctD, v_dk1, v_setOwn, v_putM, v_op2, v_op1, v_anil, v_acons, v_vws0, v_vwsC, v_cb, v_tupD, v_lstD, v_lstW, v_listW, v_dds0, v_ddsC, v_asB, v_tb1, v_andT, v_orT, v_notT, v_andV, v_orV, v_notV, v_ofB, v_ifE, v_pl, v_toW, v_fz, v_ofWd, v_ofWo, v_nxt, v_thenS, v_exprS, v_retS, v_retN, v_ifS, v_setS, v_parS, v_setIx, v_asD, v_asI, v_mthE, v_callA, v_callB, v_forS, v_argI, v_seqI, v_slD, v_poN, v_poS, v_isiE, v_isiE2, v_isNE, v_dnew, v_dinT, v_dputS, v_sortDct, v_rgE, v_rg2, v_unS, v_catW, v_chainE, v_add, v_sub, v_lt, v_le, v_gt, v_ge, v_eqI, v_eqB, v_eqS, v_ixL, v_ixT, v_lenL, v_lenT, v_abs, v_intI, v_intB, v_min, v_max, v_chk, z, c1, c1', atI, ixN, v_mod, v_div, v_mul, v_pow, hp, q1, q2, q3, q4, m1, m2, m3, m4, m5, d1, d2]
    · exact Int.emod_nonneg _ (by omega)
    · exact Int.emod_lt_of_pos _ (by omega)
theorem take_any {n : Int} {bs : List PyData} {k : Nat} (h : Bok n bs) (hn : n ≤ 10 ^ 11) {below : Int} (h1 : 1 ≤ below) (h2 : below < 1073741824) : ∃ r bs', F_take (k + 2) bs [.int below] = some (.dat (.int r), bs') ∧ 0 ≤ r ∧ r < below ∧ Bok (n + 2) bs' := by
  by_cases c : below ≤ 10 ^ 7
  · obtain ⟨r, bs', e, a, b, w⟩ := take_small (k := k + 1) h (by omega) h1 c
    exact ⟨r, bs', e, a, b, w.mono (by omega)⟩
  · by_cases c0 : ∃ b0 r, bs = .int b0 :: r ∧ 0 < b0
    · obtain ⟨b0, b1, b2, rfl, p0, p1, p1', p2, p2'⟩ := h
      obtain ⟨_, _, e, c0⟩ := c0
      cases e
      refine ⟨b0 % below, [.int (b0 / below), .int b1, .int b2], runB_eq rfl ?_, Int.emod_nonneg _ (by omega), Int.emod_lt_of_pos _ (by omega), _, _, _, rfl, Int.ediv_nonneg p0 (by omega), p1, p1', p2, by omega⟩
      unfold f_take
      simp [env0, v_bind, v_ok, v_none, v_pure, v_lift, v_liftN, v_con, v_get, v_gkd, v_gko, v_gkc, v_vwd, v_vws, v_ok1, v_ownD, v_dctD, v_dk1, v_setOwn, v_putM, v_op2, v_op1, v_anil, v_acons, v_vws0, v_vwsC, v_cb, v_tupD, v_lstD, v_lstW, v_listW, v_dds0, v_ddsC, v_asB, v_tb1, v_andT, v_orT, v_notT, v_andV, v_orV, v_notV, v_ofB, v_ifE, v_pl, v_toW, v_fz, v_ofWd, v_ofWo, v_nxt, v_thenS, v_exprS, v_retS, v_retN, v_ifS, v_setS, v_parS, v_setIx, v_asD, v_asI, v_mthE, v_callA, v_callB, v_forS, v_argI, v_seqI, v_slD, v_poN, v_poS, v_isiE, v_isiE2, v_isNE, v_dnew, v_dinT, v_dputS, v_sortDct, v_rgE, v_rg2, v_unS, v_catW, v_chainE, v_add, v_sub, v_lt, v_le, v_gt, v_ge, v_eqI, v_eqB, v_eqS, v_ixL, v_ixT, v_lenL, v_lenT, v_abs, v_intI, v_intB, v_min, v_max, v_chk, c0, atI, ixN, v_mod, v_div, pMod_ok (show 0 < below by omega), pDiv_ok (show 0 < below by omega) (show below < 1073741824 by omega)]
    · have h' := h
      obtain ⟨b0, b1, b2, rfl, p0, p1, p1', p2, p2'⟩ := h
      have z : ¬ 0 < b0 := fun z => c0 ⟨b0, _, rfl, z⟩
      obtain ⟨r1, bs1, e1, a1, w1, k1⟩ := take_small (k := k) h' (by omega) (below := 10 ^ 7) (by decide) (Int.le_refl _)
      obtain ⟨r2, bs2, e2, a2, w2, k2⟩ := take_small (k := k) k1 (by omega) (below := below / 10 ^ 7 + 1) (by omega) (by omega)
      refine ⟨(r1 + 10 ^ 7 * r2) % below, bs2, runB_eq rfl ?_, Int.emod_nonneg _ (by omega), Int.emod_lt_of_pos _ (by omega), k2.mono (by omega)⟩
      unfold f_take
      have hp : pPow 10 7 = true := by decide
      have c1 : (10000000 : Int) < below := by omega
      have e1' : F_take (k + 1) [.int b0, .int b1, .int b2] [.int 10000000] = some (.dat (.int r1), bs1) := e1
      have e2' : F_take (k + 1) bs1 [.int (below / 10000000 + 1)] = some (.dat (.int r2), bs2) := e2
      have m5 : ∀ x : Int, pMod x below = true := fun x => pMod_ok (by omega)
      have d1 : ∀ x : Int, pDiv x 10000000 = true := fun x => pDiv_ok (by decide) (by decide)
      have q1 : ∀ x : Int, pMul 10000000 x = true := fun x => by unfold pMul; simp
      simp [env0, v_bind, v_ok, v_none, v_pure, v_lift, v_liftN, v_con, v_get, v_gkd, v_gko, v_gkc, v_vwd, v_vws, v_ok1, v_ownD, v_dctD, v_dk1, v_setOwn, v_putM, v_op2, v_op1, v_anil, v_acons, v_vws0, v_vwsC, v_cb, v_tupD, v_lstD, v_lstW, v_listW, v_dds0, v_ddsC, v_asB, v_tb1, v_andT, v_orT, v_notT, v_andV, v_orV, v_notV, v_ofB, v_ifE, v_pl, v_toW, v_fz, v_ofWd, v_ofWo, v_nxt, v_thenS, v_exprS, v_retS, v_retN, v_ifS, v_setS, v_parS, v_setIx, v_asD, v_asI, v_mthE, v_callA, v_callB, v_forS, v_argI, v_seqI, v_slD, v_poN, v_poS, v_isiE, v_isiE2, v_isNE, v_dnew, v_dinT, v_dputS, v_sortDct, v_rgE, v_rg2, v_unS, v_catW, v_chainE, v_add, v_sub, v_lt, v_le, v_gt, v_ge, v_eqI, v_eqB, v_eqS, v_ixL, v_ixT, v_lenL, v_lenT, v_abs, v_intI, v_intB, v_min, v_max, v_chk, z, c1, atI, ixN, v_mod, v_div, v_mul, v_pow, hp, e1', e2', m5, d1, q1]
theorem of_ok {n : Int} {bs : List PyData} (h : Bok n bs) (hn : n ≤ 10 ^ 11) {ds : List PyData} (h1 : 1 ≤ ds.length) (h2 : ds.length ≤ 1000) : ∃ d bs', F_of bs [.list ds] = some (.dat d, bs') ∧ d ∈ ds ∧ Bok (n + 1) bs' := by
  obtain ⟨r, bs1, e1, a1, w1, k1⟩ := take_small (k := 1) h (by omega) (below := (ds.length : Int)) (by omega) (by omega)
  have hr : r.toNat < ds.length := by omega
  refine ⟨ds[r.toNat], bs1, runB_eq rfl ?_, List.getElem_mem hr, k1⟩
  unfold f_of
  have ea : atI ds r = some ds[r.toNat] := by
    unfold atI ixN
    rw [if_pos a1, if_pos w1]
    exact List.getElem?_eq_getElem hr
  simp [env0, v_bind, v_ok, v_none, v_pure, v_lift, v_liftN, v_con, v_get, v_gkd, v_gko, v_gkc, v_vwd, v_vws, v_ok1, v_ownD, v_dctD, v_dk1, v_setOwn, v_putM, v_op2, v_op1, v_anil, v_acons, v_vws0, v_vwsC, v_cb, v_tupD, v_lstD, v_lstW, v_listW, v_dds0, v_ddsC, v_asB, v_tb1, v_andT, v_orT, v_notT, v_andV, v_orV, v_notV, v_ofB, v_ifE, v_pl, v_toW, v_fz, v_ofWd, v_ofWo, v_nxt, v_thenS, v_exprS, v_retS, v_retN, v_ifS, v_setS, v_parS, v_setIx, v_asD, v_asI, v_mthE, v_callA, v_callB, v_forS, v_argI, v_seqI, v_slD, v_poN, v_poS, v_isiE, v_isiE2, v_isNE, v_dnew, v_dinT, v_dputS, v_sortDct, v_rgE, v_rg2, v_unS, v_catW, v_chainE, v_add, v_sub, v_lt, v_le, v_gt, v_ge, v_eqI, v_eqB, v_eqS, v_ixL, v_ixT, v_lenL, v_lenT, v_abs, v_intI, v_intB, v_min, v_max, v_chk, e1, ea]
theorem cell_ok {ns : List Int} {k : Int} (hk : 0 ≤ k) : ∃ c, F_cell_at [.list (ns.map .int), .int k] = some (.dat (.int c)) := by
  by_cases c : k < ns.length
  · have hr : k.toNat < ns.length := by omega
    refine ⟨ns[k.toNat], runA_eq rfl ?_⟩
    unfold f_cell_at s_cell_at_0 s_cell_at_1
    have ea : atI (ns.map PyData.int) k = some (.int ns[k.toNat]) := by
      unfold atI ixN
      rw [if_pos hk, List.length_map, if_pos c]
      simp [hr]
    simp [env0, v_bind, v_ok, v_none, v_pure, v_lift, v_liftN, v_con, v_get, v_gkd, v_gko, v_gkc, v_vwd, v_vws, v_ok1, v_ownD, v_dctD, v_dk1, v_setOwn, v_putM, v_op2, v_op1, v_anil, v_acons, v_vws0, v_vwsC, v_cb, v_tupD, v_lstD, v_lstW, v_listW, v_dds0, v_ddsC, v_asB, v_tb1, v_andT, v_orT, v_notT, v_andV, v_orV, v_notV, v_ofB, v_ifE, v_pl, v_toW, v_fz, v_ofWd, v_ofWo, v_nxt, v_thenS, v_exprS, v_retS, v_retN, v_ifS, v_setS, v_parS, v_setIx, v_asD, v_asI, v_mthE, v_callA, v_callB, v_forS, v_argI, v_seqI, v_slD, v_poN, v_poS, v_isiE, v_isiE2, v_isNE, v_dnew, v_dinT, v_dputS, v_sortDct, v_rgE, v_rg2, v_unS, v_catW, v_chainE, v_add, v_sub, v_lt, v_le, v_gt, v_ge, v_eqI, v_eqB, v_eqS, v_ixL, v_ixT, v_lenL, v_lenT, v_abs, v_intI, v_intB, v_min, v_max, v_chk, ea, c]
  · refine ⟨0, runA_eq rfl ?_⟩
    unfold f_cell_at s_cell_at_0 s_cell_at_1
    simp [env0, v_bind, v_ok, v_none, v_pure, v_lift, v_liftN, v_con, v_get, v_gkd, v_gko, v_gkc, v_vwd, v_vws, v_ok1, v_ownD, v_dctD, v_dk1, v_setOwn, v_putM, v_op2, v_op1, v_anil, v_acons, v_vws0, v_vwsC, v_cb, v_tupD, v_lstD, v_lstW, v_listW, v_dds0, v_ddsC, v_asB, v_tb1, v_andT, v_orT, v_notT, v_andV, v_orV, v_notV, v_ofB, v_ifE, v_pl, v_toW, v_fz, v_ofWd, v_ofWo, v_nxt, v_thenS, v_exprS, v_retS, v_retN, v_ifS, v_setS, v_parS, v_setIx, v_asD, v_asI, v_mthE, v_callA, v_callB, v_forS, v_argI, v_seqI, v_slD, v_poN, v_poS, v_isiE, v_isiE2, v_isNE, v_dnew, v_dinT, v_dputS, v_sortDct, v_rgE, v_rg2, v_unS, v_catW, v_chainE, v_add, v_sub, v_lt, v_le, v_gt, v_ge, v_eqI, v_eqB, v_eqS, v_ixL, v_ixT, v_lenL, v_lenT, v_abs, v_intI, v_intB, v_min, v_max, v_chk, c]
theorem box_ok {ns : List Int} {k : Int} (hk : 0 ≤ k) (hk2 : k ≤ 3) : ∃ bs, F_box [.list (ns.map .int), .int k] = some (.own (dats bs)) ∧ Bok 0 bs := by
  obtain ⟨c, hc⟩ := cell_ok (ns := ns) hk
  refine ⟨[.int ((if c < 0 then -c else c) * (if (10 : Int) ^ 18 ≤ (if c < 0 then -c else c) then 1 else 0)), .int (c % 2305843009213693951 + 39373 * k + 29), .int 0], runA_eq rfl ?_, _, _, _, rfl, ?_, ?_, ?_, Int.le_refl _, Int.le_refl _⟩
  · unfold f_box s_box_0 s_box_1
    have q1 : ∀ (x : Int) (b : Prop) [Decidable b], pMul x (if b then 1 else 0) = true := fun x b _ => by
      by_cases z : b
      · rw [if_pos z]; exact pMul_r (by decide) (by decide)
      · rw [if_neg z]; exact pMul_r (by decide) (by decide)
    have q2 : pMul 39373 k = true := pMul_r (by omega) (by omega)
    have hp : pPow 10 18 = true := by decide
    have m1 : ∀ x : Int, pMod x 2305843009213693951 = true := fun x => pMod_ok (by decide)
    simp [env0, v_bind, v_ok, v_none, v_pure, v_lift, v_liftN, v_con, v_get, v_gkd, v_gko, v_gkc, v_vwd, v_vws, v_ok1, v_ownD, v_dctD, v_dk1, v_setOwn, v_putM, v_op2, v_op1, v_anil, v_acons, v_vws0, v_vwsC, v_cb, v_tupD, v_lstD, v_lstW, v_listW, v_dds0, v_ddsC, v_asB, v_tb1, v_andT, v_orT, v_notT, v_andV, v_orV, v_notV, v_ofB, v_ifE, v_pl, v_toW, v_fz, v_ofWd, v_ofWo, v_nxt, v_thenS, v_exprS, v_retS, v_retN, v_ifS, v_setS, v_parS, v_setIx, v_asD, v_asI, v_mthE, v_callA, v_callB, v_forS, v_argI, v_seqI, v_slD, v_poN, v_poS, v_isiE, v_isiE2, v_isNE, v_dnew, v_dinT, v_dputS, v_sortDct, v_rgE, v_rg2, v_unS, v_catW, v_chainE, v_add, v_sub, v_lt, v_le, v_gt, v_ge, v_eqI, v_eqB, v_eqS, v_ixL, v_ixT, v_lenL, v_lenT, v_abs, v_intI, v_intB, v_min, v_max, v_chk, hc, v_mul, q1, q2, v_pow, hp, v_mod, m1, sz]
  · have : (0 : Int) ≤ if c < 0 then -c else c := by split <;> omega
    exact Int.mul_nonneg this (by split <;> omega)
  · omega
  · omega
end Ov

set_option Elab.async false
set_option linter.all false
set_option maxRecDepth 100000
set_option maxHeartbeats 4000000
namespace Ov
open PySem L2

theorem strewn_loop (w1 : Option Wv) (m : Nat) {k : Nat} {n : Int} {bs : List PyData} {l r : List Int} (hb : Bok n bs) (hn : n + m ≤ 10 ^ 10) (hl : l.length = m) (hr : m + r.length ≤ 500) (hk : m < k) :
    ∃ (q : List Int) (bs' : List PyData), whileM (tb1 (op2 (eqvD true) (get 2) (lstD anil))) (exprS (mthE 3 appD (acons (mthE 2 popD (acons (fz (callB 0 (F_take 2) (acons (cb lenD (acons (get 2) anil)) anil))) anil)) anil))) k
      [some (.own (dats bs)), w1, some (.own (dats (l.map .int))), some (.own (dats (r.map .int)))] = some (.ok .nx [some (.own (dats bs')), w1, some (.own (dats [])), some (.own (dats ((r ++ q).map .int)))]) ∧ q.Perm l ∧ Bok (n + m) bs' := by
  induction m generalizing k n bs l r with
  | zero =>
    obtain ⟨k, rfl⟩ : ∃ j, k = j + 1 := ⟨k - 1, by omega⟩
    have : l = [] := List.eq_nil_of_length_eq_zero hl
    subst this
    refine ⟨[], bs, (while_end (e := [some (.own (dats bs)), w1, some (.own (dats [])), some (.own (dats (r.map .int)))]) ?_).trans ?_, List.Perm.refl _, by simpa using hb⟩
    · have := ne_nil []
      simp only [List.map_nil] at this
      simp [v_bind, v_ok, v_none, v_pure, v_lift, v_liftN, v_con, v_get, v_gkd, v_gko, v_gkc, v_vwd, v_vws, v_ok1, v_ownD, v_dctD, v_dk1, v_setOwn, v_putM, v_op2, v_op1, v_anil, v_acons, v_vws0, v_vwsC, v_cb, v_tupD, v_lstD, v_lstW, v_listW, v_dds0, v_ddsC, v_asB, v_tb1, v_andT, v_orT, v_notT, v_andV, v_orV, v_notV, v_ofB, v_ifE, v_pl, v_toW, v_fz, v_ofWd, v_ofWo, v_nxt, v_thenS, v_exprS, v_retS, v_retN, v_ifS, v_setS, v_parS, v_setIx, v_asD, v_asI, v_mthE, v_callA, v_callB, v_forS, v_argI, v_seqI, v_slD, v_poN, v_poS, v_isiE, v_isiE2, v_isNE, v_dnew, v_dinT, v_dputS, v_sortDct, v_rgE, v_rg2, v_unS, v_catW, v_chainE, v_add, v_sub, v_lt, v_le, v_gt, v_ge, v_eqI, v_eqB, v_eqS, v_ixL, v_ixT, v_lenL, v_lenT, v_abs, v_intI, v_intB, v_min, v_max, v_chk, sz, this]
    · simp
  | succ m ih =>
    obtain ⟨k, rfl⟩ : ∃ j, k = j + 1 := ⟨k - 1, by omega⟩
    obtain ⟨x, bs1, e1, a1, b1, k1⟩ := take_small (k := 1) hb (by omega) (below := (l.length : Int)) (by omega) (by omega)
    have hx : x.toNat < l.length := by omega
    have hle : (l.eraseIdx x.toNat).length = m := by rw [List.length_eraseIdx, if_pos hx]; omega
    obtain ⟨q, bs2, e2, p2, k2⟩ := ih (k := k) (l := l.eraseIdx x.toNat) (r := r ++ [l[x.toNat]]) k1 (by omega) hle (by rw [List.length_append]; show m + (r.length + 1) ≤ 500; omega) (by omega)
    refine ⟨l[x.toNat] :: q, bs2, (while_go (e := [some (.own (dats bs)), w1, some (.own (dats (l.map .int))), some (.own (dats (r.map .int)))]) ?_ ?_).trans (e2.trans (by simp)), (p2.cons _).trans (erase_perm l _ _ (List.getElem?_eq_getElem hx)), k2.mono (by omega)⟩
    · have := ne_nil l
      have ne : l.isEmpty = false := by cases l with | nil => simp at hl | cons => rfl
      rw [ne] at this
      simp [v_bind, v_ok, v_none, v_pure, v_lift, v_liftN, v_con, v_get, v_gkd, v_gko, v_gkc, v_vwd, v_vws, v_ok1, v_ownD, v_dctD, v_dk1, v_setOwn, v_putM, v_op2, v_op1, v_anil, v_acons, v_vws0, v_vwsC, v_cb, v_tupD, v_lstD, v_lstW, v_listW, v_dds0, v_ddsC, v_asB, v_tb1, v_andT, v_orT, v_notT, v_andV, v_orV, v_notV, v_ofB, v_ifE, v_pl, v_toW, v_fz, v_ofWd, v_ofWo, v_nxt, v_thenS, v_exprS, v_retS, v_retN, v_ifS, v_setS, v_parS, v_setIx, v_asD, v_asI, v_mthE, v_callA, v_callB, v_forS, v_argI, v_seqI, v_slD, v_poN, v_poS, v_isiE, v_isiE2, v_isNE, v_dnew, v_dinT, v_dputS, v_sortDct, v_rgE, v_rg2, v_unS, v_catW, v_chainE, v_add, v_sub, v_lt, v_le, v_gt, v_ge, v_eqI, v_eqB, v_eqS, v_ixL, v_ixT, v_lenL, v_lenT, v_abs, v_intI, v_intB, v_min, v_max, v_chk, sz, this]
    · have hp : popD (l.map .int) [.int x] = some ((l.eraseIdx x.toNat).map .int, .int l[x.toNat]) := by
        unfold popD
        simp only
        rw [if_pos ⟨a1, by omega⟩, List.getElem?_map, List.getElem?_eq_getElem hx]
        simp [erase_map]
      have ha : appD (r.map PyData.int) [.int l[x.toNat]] = some ((r ++ [l[x.toNat]]).map .int, .none) := by
        rw [v_app _ _ (by rw [List.length_map]; omega)]
        simp
      have e1' : F_take 2 bs [.int ((l.map PyData.int).length : Nat)] = some (.dat (.int x), bs1) := by rw [List.length_map]; exact e1
      simp [v_bind, v_ok, v_none, v_pure, v_lift, v_liftN, v_con, v_get, v_gkd, v_gko, v_gkc, v_vwd, v_vws, v_ok1, v_ownD, v_dctD, v_dk1, v_setOwn, v_putM, v_op2, v_op1, v_anil, v_acons, v_vws0, v_vwsC, v_cb, v_tupD, v_lstD, v_lstW, v_listW, v_dds0, v_ddsC, v_asB, v_tb1, v_andT, v_orT, v_notT, v_andV, v_orV, v_notV, v_ofB, v_ifE, v_pl, v_toW, v_fz, v_ofWd, v_ofWo, v_nxt, v_thenS, v_exprS, v_retS, v_retN, v_ifS, v_setS, v_parS, v_setIx, v_asD, v_asI, v_mthE, v_callA, v_callB, v_forS, v_argI, v_seqI, v_slD, v_poN, v_poS, v_isiE, v_isiE2, v_isNE, v_dnew, v_dinT, v_dputS, v_sortDct, v_rgE, v_rg2, v_unS, v_catW, v_chainE, v_add, v_sub, v_lt, v_le, v_gt, v_ge, v_eqI, v_eqB, v_eqS, v_ixL, v_ixT, v_lenL, v_lenT, v_abs, v_intI, v_intB, v_min, v_max, v_chk, e1, hp, ha]
theorem strewn_ok {n : Int} {bs : List PyData} (h : Bok n bs) (hn : n ≤ 10 ^ 9) {ns : List Int} {d : PyData} (hd : d = .list (ns.map .int) ∨ d = .tuple (ns.map .int)) (h2 : ns.length ≤ 90) : ∃ (ms : List Int) (bs' : List PyData), F_strewn bs [d] = some (.own (dats (ms.map .int)), bs') ∧ ms.Perm ns ∧ Bok (n + 90) bs' := by
  obtain ⟨q, bs', e, p, k⟩ := strewn_loop (some (.dat d)) ns.length (k := 100) (l := ns) (r := []) h (by omega) rfl (by simp; omega) (by omega)
  refine ⟨q, bs', runB_eq rfl ?_, p, k.mono (by omega)⟩
  unfold f_strewn s_strewn_0 s_strewn_1 s_strewn_2
  have e' : whileM (tb1 (op2 (eqvD true) (get 2) (lstD anil))) (exprS (mthE 3 appD (acons (mthE 2 popD (acons (fz (callB 0 (F_take 2) (acons (cb lenD (acons (get 2) anil)) anil))) anil)) anil))) 100 [some (.own (dats bs)), some (.dat d), some (.own (dats (ns.map .int))), some (.own (dats []))] = some (.ok .nx [some (.own (dats bs')), some (.dat d), some (.own (dats [])), some (.own (dats (q.map .int)))]) := by simpa using e
  rcases hd with rfl | rfl
  · simp [env0, v_bind, v_ok, v_none, v_pure, v_lift, v_liftN, v_con, v_get, v_gkd, v_gko, v_gkc, v_vwd, v_vws, v_ok1, v_ownD, v_dctD, v_dk1, v_setOwn, v_putM, v_op2, v_op1, v_anil, v_acons, v_vws0, v_vwsC, v_cb, v_tupD, v_lstD, v_lstW, v_listW, v_dds0, v_ddsC, v_asB, v_tb1, v_andT, v_orT, v_notT, v_andV, v_orV, v_notV, v_ofB, v_ifE, v_pl, v_toW, v_fz, v_ofWd, v_ofWo, v_nxt, v_thenS, v_exprS, v_retS, v_retN, v_ifS, v_setS, v_parS, v_setIx, v_asD, v_asI, v_mthE, v_callA, v_callB, v_forS, v_argI, v_seqI, v_slD, v_poN, v_poS, v_isiE, v_isiE2, v_isNE, v_dnew, v_dinT, v_dputS, v_sortDct, v_rgE, v_rg2, v_unS, v_catW, v_chainE, v_add, v_sub, v_lt, v_le, v_gt, v_ge, v_eqI, v_eqB, v_eqS, v_ixL, v_ixT, v_lenL, v_lenT, v_abs, v_intI, v_intB, v_min, v_max, v_chk, seqD, sz, e', moveS]
  · simp [env0, v_bind, v_ok, v_none, v_pure, v_lift, v_liftN, v_con, v_get, v_gkd, v_gko, v_gkc, v_vwd, v_vws, v_ok1, v_ownD, v_dctD, v_dk1, v_setOwn, v_putM, v_op2, v_op1, v_anil, v_acons, v_vws0, v_vwsC, v_cb, v_tupD, v_lstD, v_lstW, v_listW, v_dds0, v_ddsC, v_asB, v_tb1, v_andT, v_orT, v_notT, v_andV, v_orV, v_notV, v_ofB, v_ifE, v_pl, v_toW, v_fz, v_ofWd, v_ofWo, v_nxt, v_thenS, v_exprS, v_retS, v_retN, v_ifS, v_setS, v_parS, v_setIx, v_asD, v_asI, v_mthE, v_callA, v_callB, v_forS, v_argI, v_seqI, v_slD, v_poN, v_poS, v_isiE, v_isiE2, v_isNE, v_dnew, v_dinT, v_dputS, v_sortDct, v_rgE, v_rg2, v_unS, v_catW, v_chainE, v_add, v_sub, v_lt, v_le, v_gt, v_ge, v_eqI, v_eqB, v_eqS, v_ixL, v_ixT, v_lenL, v_lenT, v_abs, v_intI, v_intB, v_min, v_max, v_chk, seqD, sz, e', moveS]
theorem souls_while {w0 w1 : Option Wv} {ks : List Int} {top c M : Int} (hM : M = if c > top then c else top) (h0 : 0 < M) (m : Nat) {k : Nat} {a : Int} {w4 : Option Wv} (h1 : (a + m) % M + 1 ∉ ks) (h2 : ∀ j : Nat, j < m → (a + j) % M + 1 ∈ ks) (hk : m < k) :
    whileM (dinT false 2 (get 5)) (setS 5 (pl (op2 addD (op2 modD (get 5) (cb maxD (acons (get 3) (acons (get 1) anil)))) (con (.int 1))))) k
      [w0, some (.dat (.int c)), some (.dct ks), some (.dat (.int top)), w4, some (.dat (.int (a % M + 1)))] = some (.ok .nx [w0, some (.dat (.int c)), some (.dct ks), some (.dat (.int top)), w4, some (.dat (.int ((a + m) % M + 1)))]) := by
  induction m generalizing k a with
  | zero =>
    obtain ⟨k, rfl⟩ : ∃ j, k = j + 1 := ⟨k - 1, by omega⟩
    refine (while_end (e := [w0, some (.dat (.int c)), some (.dct ks), some (.dat (.int top)), w4, some (.dat (.int (a % M + 1)))]) ?_).trans (by simp)
    have : a % M + 1 ∉ ks := by simpa using h1
    simp [v_bind, v_ok, v_none, v_pure, v_lift, v_liftN, v_con, v_get, v_gkd, v_gko, v_gkc, v_vwd, v_vws, v_ok1, v_ownD, v_dctD, v_dk1, v_setOwn, v_putM, v_op2, v_op1, v_anil, v_acons, v_vws0, v_vwsC, v_cb, v_tupD, v_lstD, v_lstW, v_listW, v_dds0, v_ddsC, v_asB, v_tb1, v_andT, v_orT, v_notT, v_andV, v_orV, v_notV, v_ofB, v_ifE, v_pl, v_toW, v_fz, v_ofWd, v_ofWo, v_nxt, v_thenS, v_exprS, v_retS, v_retN, v_ifS, v_setS, v_parS, v_setIx, v_asD, v_asI, v_mthE, v_callA, v_callB, v_forS, v_argI, v_seqI, v_slD, v_poN, v_poS, v_isiE, v_isiE2, v_isNE, v_dnew, v_dinT, v_dputS, v_sortDct, v_rgE, v_rg2, v_unS, v_catW, v_chainE, v_add, v_sub, v_lt, v_le, v_gt, v_ge, v_eqI, v_eqB, v_eqS, v_ixL, v_ixT, v_lenL, v_lenT, v_abs, v_intI, v_intB, v_min, v_max, v_chk, this]
  | succ m ih0 =>
    obtain ⟨k, rfl⟩ : ∃ j, k = j + 1 := ⟨k - 1, by omega⟩
    have ih := ih0 (k := k) (a := a + 1) (by rw [show a + 1 + (m : Int) = a + ((m + 1 : Nat) : Int) by omega]; exact h1) (fun j hj => by rw [show a + 1 + (j : Int) = a + ((j + 1 : Nat) : Int) by omega]; exact h2 (j + 1) (by omega)) (by omega)
    refine (while_go (e := [w0, some (.dat (.int c)), some (.dct ks), some (.dat (.int top)), w4, some (.dat (.int (a % M + 1)))]) ?_ ?_).trans (ih.trans (by rw [show a + 1 + (m : Int) = a + ((m + 1 : Nat) : Int) by omega]))
    · have : a % M + 1 ∈ ks := by simpa using h2 0 (by omega)
      simp [v_bind, v_ok, v_none, v_pure, v_lift, v_liftN, v_con, v_get, v_gkd, v_gko, v_gkc, v_vwd, v_vws, v_ok1, v_ownD, v_dctD, v_dk1, v_setOwn, v_putM, v_op2, v_op1, v_anil, v_acons, v_vws0, v_vwsC, v_cb, v_tupD, v_lstD, v_lstW, v_listW, v_dds0, v_ddsC, v_asB, v_tb1, v_andT, v_orT, v_notT, v_andV, v_orV, v_notV, v_ofB, v_ifE, v_pl, v_toW, v_fz, v_ofWd, v_ofWo, v_nxt, v_thenS, v_exprS, v_retS, v_retN, v_ifS, v_setS, v_parS, v_setIx, v_asD, v_asI, v_mthE, v_callA, v_callB, v_forS, v_argI, v_seqI, v_slD, v_poN, v_poS, v_isiE, v_isiE2, v_isNE, v_dnew, v_dinT, v_dputS, v_sortDct, v_rgE, v_rg2, v_unS, v_catW, v_chainE, v_add, v_sub, v_lt, v_le, v_gt, v_ge, v_eqI, v_eqB, v_eqS, v_ixL, v_ixT, v_lenL, v_lenT, v_abs, v_intI, v_intB, v_min, v_max, v_chk, this]
    · have e1 : pMod (a % M + 1) (if c > top then c else top) = true := by rw [← hM]; exact pMod_ok h0
      have e2 : (a % M + 1) % (if c > top then c else top) + 1 = (a + 1) % M + 1 := by rw [← hM]; exact step_mod h0
      simp only [gt_iff_lt] at e1 e2
      simp [v_bind, v_ok, v_none, v_pure, v_lift, v_liftN, v_con, v_get, v_gkd, v_gko, v_gkc, v_vwd, v_vws, v_ok1, v_ownD, v_dctD, v_dk1, v_setOwn, v_putM, v_op2, v_op1, v_anil, v_acons, v_vws0, v_vwsC, v_cb, v_tupD, v_lstD, v_lstW, v_listW, v_dds0, v_ddsC, v_asB, v_tb1, v_andT, v_orT, v_notT, v_andV, v_orV, v_notV, v_ofB, v_ifE, v_pl, v_toW, v_fz, v_ofWd, v_ofWo, v_nxt, v_thenS, v_exprS, v_retS, v_retN, v_ifS, v_setS, v_parS, v_setIx, v_asD, v_asI, v_mthE, v_callA, v_callB, v_forS, v_argI, v_seqI, v_slD, v_poN, v_poS, v_isiE, v_isiE2, v_isNE, v_dnew, v_dinT, v_dputS, v_sortDct, v_rgE, v_rg2, v_unS, v_catW, v_chainE, v_add, v_sub, v_lt, v_le, v_gt, v_ge, v_eqI, v_eqB, v_eqS, v_ixL, v_ixT, v_lenL, v_lenT, v_abs, v_intI, v_intB, v_min, v_max, v_chk, v_mod, e1, e2]
theorem souls_for {c top M : Int} (hM : M = if c > top then c else top) (ht : 0 ≤ top) (ht2 : top ≤ 10 ^ 9) (hc : c ≤ 16) (h0 : 0 ≤ c) (l : List Int) {n : Int} {bs : List PyData} {ks : List Int} {w4 w5 : Option Wv} (hb : Bok n bs) (hn : n + 2 * l.length ≤ 10 ^ 10) (hl : ks.length + l.length = c.toNat) (nd : ks.Nodup) (hk : ∀ x ∈ ks, 1 ≤ x ∧ x ≤ M) :
    ∃ (ks' : List Int) (bs' : List PyData) (u4 u5 : Option Wv), forM (gN 4) (thenS (setS 5 (pl (op2 addD (con (.int 1)) (fz (callB 0 (F_take 2) (acons (cb maxD (acons (con (.int 1)) (acons (get 3) anil))) anil)))))) (thenS (whileM (dinT false 2 (get 5)) (setS 5 (pl (op2 addD (op2 modD (get 5) (cb maxD (acons (get 3) (acons (get 1) anil)))) (con (.int 1))))) 100) (dputS 2 (get 5)))) (l.map .int)
      [some (.own (dats bs)), some (.dat (.int c)), some (.dct ks), some (.dat (.int top)), w4, w5] = some (.ok .nx [some (.own (dats bs')), some (.dat (.int c)), some (.dct ks'), some (.dat (.int top)), u4, u5]) ∧ ks'.Nodup ∧ (∀ x ∈ ks', 1 ≤ x ∧ x ≤ M) ∧ ks'.length = c.toNat ∧ Bok (n + 2 * l.length) bs' := by
  induction l generalizing n bs ks w4 w5 with
  | nil => exact ⟨ks, bs, w4, w5, rfl, nd, hk, by simpa using hl, by simpa using hb⟩
  | cons x l ih =>
    rw [List.length_cons] at hl hn
    have hm1 : (1 : Int) ≤ (if top > 1 then top else 1) := by split <;> omega
    have hm2 : (if top > 1 then top else 1) ≤ (10 : Int) ^ 9 := by split <;> omega
    obtain ⟨r, bs1, e1, a1, b1, k1⟩ := take_any (k := 0) hb (by omega) (below := if top > 1 then top else 1) hm1 (by omega)
    have hM0 : 0 < M := by rw [hM]; split <;> omega
    have hMr : 1 + r ≤ M := by
      have : (if top > 1 then top else 1) ≤ M := by rw [hM]; split <;> split <;> omega
      omega
    have hkl : (ks.length : Int) < M := by
      have : c ≤ M := by rw [hM]; split <;> omega
      omega
    obtain ⟨m, hm, f1, f2⟩ := free_first ks r M hkl
    have hr0 : r % M = r := Int.emod_eq_of_lt a1 (by omega)
    have wl := souls_while (w0 := some (.own (dats bs1))) (w1 := none) (ks := ks) (top := top) (c := c) hM hM0 m (k := 100) (a := r) (w4 := some (.dat (.int x))) f1 f2 (by omega)
    rw [hr0] at wl
    have hv1 : 1 ≤ (r + m) % M + 1 := by have := Int.emod_nonneg (r + (m : Int)) (show M ≠ 0 by omega); omega
    have hv2 : (r + m) % M + 1 ≤ M := by have := Int.emod_lt_of_pos (r + (m : Int)) hM0; omega
    obtain ⟨ks', bs2, u4, u5, e2, n2, q2, l2, k2⟩ := ih (n := n + 2) (bs := bs1) (ks := ks ++ [(r + m) % M + 1]) (w4 := some (.dat (.int x))) (w5 := some (.dat (.int ((r + m) % M + 1)))) k1 (by omega) (by rw [List.length_append]; show ks.length + 1 + l.length = _; omega)
      (List.nodup_append.mpr ⟨nd, by simp, fun y hy z hz => by rw [List.mem_singleton.mp hz]; exact fun e => f1 (e ▸ hy)⟩) (fun y hy => (List.mem_append.mp hy).elim (hk y) fun z => by rw [List.mem_singleton.mp z]; exact ⟨hv1, hv2⟩)
    refine ⟨ks', bs2, u4, u5, (for_go (e := [some (.own (dats bs)), some (.dat (.int c)), some (.dct ks), some (.dat (.int top)), some (.dat (.int x)), w5]) rfl ?_).trans e2, n2, q2, l2, k2.mono (by rw [List.length_cons]; omega)⟩
    rw [Int.add_comm r 1] at wl
    have pt : putT ks ((r + m) % M + 1) = ks ++ [(r + m) % M + 1] := if_neg f1
    have hlen : decide (ks.length < 1000) = true := decide_eq_true (by omega)
    simp only [gt_iff_lt] at e1
    simp [v_bind, v_ok, v_none, v_pure, v_lift, v_liftN, v_con, v_get, v_gkd, v_gko, v_gkc, v_vwd, v_vws, v_ok1, v_ownD, v_dctD, v_dk1, v_setOwn, v_putM, v_op2, v_op1, v_anil, v_acons, v_vws0, v_vwsC, v_cb, v_tupD, v_lstD, v_lstW, v_listW, v_dds0, v_ddsC, v_asB, v_tb1, v_andT, v_orT, v_notT, v_andV, v_orV, v_notV, v_ofB, v_ifE, v_pl, v_toW, v_fz, v_ofWd, v_ofWo, v_nxt, v_thenS, v_exprS, v_retS, v_retN, v_ifS, v_setS, v_parS, v_setIx, v_asD, v_asI, v_mthE, v_callA, v_callB, v_forS, v_argI, v_seqI, v_slD, v_poN, v_poS, v_isiE, v_isiE2, v_isNE, v_dnew, v_dinT, v_dputS, v_sortDct, v_rgE, v_rg2, v_unS, v_catW, v_chainE, v_add, v_sub, v_lt, v_le, v_gt, v_ge, v_eqI, v_eqB, v_eqS, v_ixL, v_ixT, v_lenL, v_lenT, v_abs, v_intI, v_intB, v_min, v_max, v_chk, e1, wl, pt, hlen]
theorem souls_ok {n : Int} {bs : List PyData} (h : Bok n bs) (hn : n ≤ 10 ^ 9) {c : Int} (h0 : 0 ≤ c) (h1 : c ≤ 16) : ∃ (ms : List Int) (bs' : List PyData), F_souls bs [.int c] = some (.dat (.list (ms.map .int)), bs') ∧ ms.Nodup ∧ ms.Pairwise (· ≤ ·) ∧ (∀ x ∈ ms, 1 ≤ x ∧ x ≤ 10 ^ 9) ∧ ms.length = c.toNat ∧ Bok (n + 40) bs' := by
  obtain ⟨d, bs1, e1, md, k1⟩ := of_ok h (by omega) (ds := [.int c, .int (3 * c + 1), .int (10 ^ 9)]) (by simp) (by simp)
  obtain ⟨top, rfl, t0, t1⟩ : ∃ top : Int, d = .int top ∧ 0 ≤ top ∧ top ≤ 10 ^ 9 := by
    simp only [List.mem_cons, List.not_mem_nil, or_false] at md
    rcases md with rfl | rfl | rfl
    · exact ⟨_, rfl, by omega, by omega⟩
    · exact ⟨_, rfl, by omega, by omega⟩
    · exact ⟨_, rfl, by decide, by decide⟩
  have hrl : (rngL 0 c).length = c.toNat := by simp [rngL]
  obtain ⟨ks, bs2, u4, u5, e2, nd, q, l2, k2⟩ := souls_for (c := c) (top := top) rfl t0 t1 h1 h0 (rngL 0 c) (n := n + 1) (bs := bs1) (ks := []) (w4 := none) (w5 := none) k1 (by rw [hrl]; omega) (by rw [hrl]; simp) List.nodup_nil (fun x hx => by cases hx)
  rw [hrl] at k2
  refine ⟨sortI ks, bs2, runB_eq rfl ?_, (sortI_perm ks).nodup_iff.mpr nd, sortI_pw ks, fun x hx => ?_, (sortI_perm ks).length_eq.trans l2, k2.mono (by omega)⟩
  · unfold f_souls s_souls_0 s_souls_1 s_souls_2 b_souls_1
    have q1 : pMul 3 c = true := pMul_r (by omega) (by omega)
    have hp : pPow 10 9 = true := by decide
    have e1' : F_of bs [.list [.int c, .int (3 * c + 1), .int 1000000000]] = some (.dat (.int top), bs1) := e1
    have rg : rngD [.int c] = some ((rngL 0 c).map .int) := if_pos ⟨by omega, by omega⟩
    have h64 : decide (ks.length < 64) = true := decide_eq_true (by omega)
    simp [env0, v_bind, v_ok, v_none, v_pure, v_lift, v_liftN, v_con, v_get, v_gkd, v_gko, v_gkc, v_vwd, v_vws, v_ok1, v_ownD, v_dctD, v_dk1, v_setOwn, v_putM, v_op2, v_op1, v_anil, v_acons, v_vws0, v_vwsC, v_cb, v_tupD, v_lstD, v_lstW, v_listW, v_dds0, v_ddsC, v_asB, v_tb1, v_andT, v_orT, v_notT, v_andV, v_orV, v_notV, v_ofB, v_ifE, v_pl, v_toW, v_fz, v_ofWd, v_ofWo, v_nxt, v_thenS, v_exprS, v_retS, v_retN, v_ifS, v_setS, v_parS, v_setIx, v_asD, v_asI, v_mthE, v_callA, v_callB, v_forS, v_argI, v_seqI, v_slD, v_poN, v_poS, v_isiE, v_isiE2, v_isNE, v_dnew, v_dinT, v_dputS, v_sortDct, v_rgE, v_rg2, v_unS, v_catW, v_chainE, v_add, v_sub, v_lt, v_le, v_gt, v_ge, v_eqI, v_eqB, v_eqS, v_ixL, v_ixT, v_lenL, v_lenT, v_abs, v_intI, v_intB, v_min, v_max, v_chk, v_mul, q1, v_pow, hp, sz, e1', rg, e2, h64]
  · have hx' := q x ((sortI_perm ks).mem_iff.mp hx)
    refine ⟨hx'.1, Int.le_trans hx'.2 ?_⟩
    split <;> omega
theorem ins_perm {l : List Int} {x : Int} (i : Nat) : (l.take i ++ [x] ++ l.drop i).Perm (x :: l) := by
  have h : (l.take i ++ [x] ++ l.drop i).Perm ([x] ++ (l.take i ++ l.drop i)) := by
    rw [List.append_assoc]
    exact List.perm_append_comm_assoc _ _ _
  rw [List.take_append_drop] at h
  exact h
theorem crowd_for {w1 w2 : Option Wv} (l : List Int) {n : Int} {bs : List PyData} {r : List Int} {w4 : Option Wv} (hb : Bok n bs) (hn : n + 2 * l.length ≤ 10 ^ 10) (hl : r.length + l.length ≤ 500) :
    ∃ (q : List Int) (bs' : List PyData) (u4 : Option Wv), forM (gN 4) (exprS (mthE 3 insD (acons (ifE (tb1 (op2 gtD (fz (callB 0 (F_take 2) (acons (con (.int 3)) anil))) (con (.int 0)))) (op2 divD (cb lenD (acons (get 3) anil)) (con (.int 2))) (fz (callB 0 (F_take 2) (acons (op2 addD (cb lenD (acons (get 3) anil)) (con (.int 1))) anil)))) (acons (get 4) anil)))) (l.map .int)
      [some (.own (dats bs)), w1, w2, some (.own (dats (r.map .int))), w4] = some (.ok .nx [some (.own (dats bs')), w1, w2, some (.own (dats (q.map .int))), u4]) ∧ q.Perm (r ++ l) ∧ Bok (n + 2 * l.length) bs' := by
  induction l generalizing n bs r w4 with
  | nil => exact ⟨r, bs, w4, rfl, by simp, by simpa using hb⟩
  | cons x l ih =>
    rw [List.length_cons] at hl hn
    obtain ⟨y, bs1, e1, a1, b1, k1⟩ := take_small (k := 1) hb (by omega) (below := 3) (by decide) (by decide)
    obtain ⟨i, bs2, hi0, hi1, k2, ev⟩ : ∃ (i : Int) (bs2 : List PyData), 0 ≤ i ∧ i ≤ r.length ∧ Bok (n + 2) bs2 ∧ ifE (tb1 (op2 gtD (fz (callB 0 (F_take 2) (acons (con (.int 3)) anil))) (con (.int 0)))) (op2 divD (cb lenD (acons (get 3) anil)) (con (.int 2))) (fz (callB 0 (F_take 2) (acons (op2 addD (cb lenD (acons (get 3) anil)) (con (.int 1))) anil)))
        [some (.own (dats bs)), w1, w2, some (.own (dats (r.map .int))), some (.dat (.int x))] = some (.ok (.dat (.int i)) [some (.own (dats bs2)), w1, w2, some (.own (dats (r.map .int))), some (.dat (.int x))]) := by
      by_cases z : 0 < y
      · refine ⟨(r.length : Int) / 2, bs1, by omega, by omega, k1.mono (by omega), ?_⟩
        have d1 : pDiv (r.length : Int) 2 = true := pDiv_ok (by decide) (by decide)
        simp [v_bind, v_ok, v_none, v_pure, v_lift, v_liftN, v_con, v_get, v_gkd, v_gko, v_gkc, v_vwd, v_vws, v_ok1, v_ownD, v_dctD, v_dk1, v_setOwn, v_putM, v_op2, v_op1, v_anil, v_acons, v_vws0, v_vwsC, v_cb, v_tupD, v_lstD, v_lstW, v_listW, v_dds0, v_ddsC, v_asB, v_tb1, v_andT, v_orT, v_notT, v_andV, v_orV, v_notV, v_ofB, v_ifE, v_pl, v_toW, v_fz, v_ofWd, v_ofWo, v_nxt, v_thenS, v_exprS, v_retS, v_retN, v_ifS, v_setS, v_parS, v_setIx, v_asD, v_asI, v_mthE, v_callA, v_callB, v_forS, v_argI, v_seqI, v_slD, v_poN, v_poS, v_isiE, v_isiE2, v_isNE, v_dnew, v_dinT, v_dputS, v_sortDct, v_rgE, v_rg2, v_unS, v_catW, v_chainE, v_add, v_sub, v_lt, v_le, v_gt, v_ge, v_eqI, v_eqB, v_eqS, v_ixL, v_ixT, v_lenL, v_lenT, v_abs, v_intI, v_intB, v_min, v_max, v_chk, e1, z, v_div, d1]
      · obtain ⟨i, bs2, e2, a2, b2, k2⟩ := take_small (k := 1) k1 (by omega) (below := (r.length : Int) + 1) (by omega) (by omega)
        refine ⟨i, bs2, a2, by omega, k2.mono (by omega), ?_⟩
        simp [v_bind, v_ok, v_none, v_pure, v_lift, v_liftN, v_con, v_get, v_gkd, v_gko, v_gkc, v_vwd, v_vws, v_ok1, v_ownD, v_dctD, v_dk1, v_setOwn, v_putM, v_op2, v_op1, v_anil, v_acons, v_vws0, v_vwsC, v_cb, v_tupD, v_lstD, v_lstW, v_listW, v_dds0, v_ddsC, v_asB, v_tb1, v_andT, v_orT, v_notT, v_andV, v_orV, v_notV, v_ofB, v_ifE, v_pl, v_toW, v_fz, v_ofWd, v_ofWo, v_nxt, v_thenS, v_exprS, v_retS, v_retN, v_ifS, v_setS, v_parS, v_setIx, v_asD, v_asI, v_mthE, v_callA, v_callB, v_forS, v_argI, v_seqI, v_slD, v_poN, v_poS, v_isiE, v_isiE2, v_isNE, v_dnew, v_dinT, v_dputS, v_sortDct, v_rgE, v_rg2, v_unS, v_catW, v_chainE, v_add, v_sub, v_lt, v_le, v_gt, v_ge, v_eqI, v_eqB, v_eqS, v_ixL, v_ixT, v_lenL, v_lenT, v_abs, v_intI, v_intB, v_min, v_max, v_chk, e1, z, e2]
    have hin : insD (r.map .int) [.int i, .int x] = some ((r.take i.toNat ++ [x] ++ r.drop i.toNat).map .int, .none) := by
      unfold insD
      simp only
      rw [if_pos ⟨hi0, by omega⟩, v_sz _ (by rw [List.length_map]; omega)]
      simp
    obtain ⟨q, bs3, u4, e3, p3, k3⟩ := ih (n := n + 2) (bs := bs2) (r := r.take i.toNat ++ [x] ++ r.drop i.toNat) (w4 := some (.dat (.int x))) k2 (by omega) (by rw [(ins_perm _).length_eq, List.length_cons]; omega)
    refine ⟨q, bs3, u4, (for_go (e := [some (.own (dats bs)), w1, w2, some (.own (dats (r.map .int))), some (.dat (.int x))]) rfl ?_).trans e3, ?_, k3.mono (by rw [List.length_cons]; omega)⟩
    · simp [v_bind, v_ok, v_none, v_pure, v_lift, v_liftN, v_con, v_get, v_gkd, v_gko, v_gkc, v_vwd, v_vws, v_ok1, v_ownD, v_dctD, v_dk1, v_setOwn, v_putM, v_op2, v_op1, v_anil, v_acons, v_vws0, v_vwsC, v_cb, v_tupD, v_lstD, v_lstW, v_listW, v_dds0, v_ddsC, v_asB, v_tb1, v_andT, v_orT, v_notT, v_andV, v_orV, v_notV, v_ofB, v_pl, v_toW, v_fz, v_ofWd, v_ofWo, v_nxt, v_thenS, v_exprS, v_retS, v_retN, v_ifS, v_setS, v_parS, v_setIx, v_asD, v_asI, v_mthE, v_callA, v_callB, v_forS, v_argI, v_seqI, v_slD, v_poN, v_poS, v_isiE, v_isiE2, v_isNE, v_dnew, v_dinT, v_dputS, v_sortDct, v_rgE, v_rg2, v_unS, v_catW, v_chainE, v_add, v_sub, v_lt, v_le, v_gt, v_ge, v_eqI, v_eqB, v_eqS, v_ixL, v_ixT, v_lenL, v_lenT, v_abs, v_intI, v_intB, v_min, v_max, v_chk, ev, hin]
    · refine p3.trans (((ins_perm _).append_right l).trans ?_)
      exact (List.perm_middle (a := x) (l₁ := r) (l₂ := l)).symm
end Ov

set_option Elab.async false
set_option linter.all false
set_option maxRecDepth 100000
set_option maxHeartbeats 4000000
namespace Ov
open PySem L2
def isS : PyData → Bool
  | .str _ => true
  | _ => false
theorem v_kI (d : PyData) : kitD "int" d = some (isI d || isB d) := kit_int d
theorem v_kB (d : PyData) : kitD "bool" d = some (isB d) := kit_bool d
theorem v_kT (d : PyData) : kitD "tuple" d = some (isT d) := kit_tuple d
theorem v_kL (d : PyData) : kitD "list" d = some (isL d) := kit_list d
theorem v_kS : ∀ d : PyData, kitD "str" d = some (isS d)
  | .none => (by decide +kernel : kitB "NoneType" "str" = some false)
  | .bool _ => (by decide +kernel : kitB "bool" "str" = some false)
  | .int _ => (by decide +kernel : kitB "int" "str" = some false)
  | .str _ => (by decide +kernel : kitB "str" "str" = some true)
  | .list _ => (by decide +kernel : kitB "list" "str" = some false)
  | .tuple _ => (by decide +kernel : kitB "tuple" "str" = some false)
  | .dict _ => (by decide +kernel : kitB "dict" "str" = some false)
theorem enum_at (k : Int) (ds : List PyData) (i : Nat) : (enumL k ds)[i]? = ds[i]?.map fun x => .tuple [.int (k + (i : Nat)), x] := by
  unfold enumL
  rw [List.getElem?_map, List.getElem?_zipIdx]
  cases ds[i]? <;> simp
theorem enum_cons (k : Int) (d : PyData) (ds : List PyData) : enumL k (d :: ds) = .tuple [.int k, d] :: enumL (k + 1) ds := by
  apply List.ext_getElem?
  intro i
  cases i with
  | zero => rw [enum_at]; simp
  | succ i =>
    rw [enum_at, List.getElem?_cons_succ, List.getElem?_cons_succ, enum_at]
    congr 1
    funext x
    rw [show k + ((i + 1 : Nat) : Int) = k + 1 + (i : Int) by omega]
theorem intsOf_append : ∀ a b : List PyData, intsOf (a ++ b) = intsOf a ++ intsOf b
  | [], b => rfl
  | d :: a, b => by cases d <;> simp [intsOf, intsOf_append a b]
theorem any_ints {i : Int} : ∀ {pre : List PyData}, pre.all isH = true → (pre.any fun z => PyData.eqv z (.int i)) = decide (i ∈ intsOf pre)
  | [], _ => rfl
  | d :: r, h => by
    rw [List.all_cons, Bool.and_eq_true] at h
    cases d with
    | int j =>
      rw [List.any_cons, any_ints h.2]
      show ((j == i) || decide (i ∈ intsOf r)) = decide (i ∈ j :: intsOf r)
      by_cases e : j = i
      · subst e; simp
      · simp [e, Ne.symm e]
    | none => exact absurd h.1 Bool.false_ne_true
    | bool _ => exact absurd h.1 Bool.false_ne_true
    | str _ => exact absurd h.1 Bool.false_ne_true
    | list _ => exact absurd h.1 Bool.false_ne_true
    | tuple _ => exact absurd h.1 Bool.false_ne_true
    | dict _ => exact absurd h.1 Bool.false_ne_true
theorem heights_atoms : ∀ {pre : List PyData}, pre.all isH = true → pre.all atomD = true
  | [], _ => rfl
  | d :: r, h => by
    rw [List.all_cons, Bool.and_eq_true] at h ⊢
    refine ⟨?_, heights_atoms h.2⟩
    cases d with
    | int j => rfl
    | none => exact absurd h.1 Bool.false_ne_true
    | bool _ => exact absurd h.1 Bool.false_ne_true
    | str _ => exact absurd h.1 Bool.false_ne_true
    | list _ => exact absurd h.1 Bool.false_ne_true
    | tuple _ => exact absurd h.1 Bool.false_ne_true
    | dict _ => exact absurd h.1 Bool.false_ne_true
theorem cut_pre (pre suf : List PyData) : cutL (pre ++ suf) none (some (pre.length : Int)) = pre := by
  unfold cutL
  rw [HT.sIx_nat, HT.sIx_none, List.length_append, Nat.min_eq_left (by omega)]
  simp
theorem crowd_no {ds : List PyData} {d : PyData} (h : d ∈ ds) (e : isH d = false) : isCrowd (.tuple ds) = false := by
  show (ds.all isH && decide (intsOf ds).Nodup) = false
  rw [Bool.and_eq_false_iff]
  exact .inl (List.all_eq_false.mpr ⟨d, h, by rw [e]; exact Bool.false_ne_true⟩)
theorem bools_of (ds : List PyData) (g : PyData → Bool) : boolsD (ds.map fun d => .bool (g d)) = some (ds.map g) := by
  have := boolsD_map (ds.map g)
  rw [List.map_map] at this
  exact this
theorem all_id (ds : List PyData) (g : PyData → Bool) : (ds.map g).all id = ds.all g := by
  rw [List.all_map]
  rfl
def okS : Nat → PyData → Prop
  | 0, _ => False
  | n + 1, d => (atomD d = true ∧ shp d = true) ∨ ∃ ds : List PyData, (d = .list ds ∨ d = .tuple ds) ∧ ds.length < 1000 ∧ ∀ x ∈ ds, okS n x
theorem eqv_atom {d : PyData} (h : atomD d = true) : PyData.eqv d d = true := by
  cases d with
  | none => rfl
  | bool b => simp [PyData.eqv]
  | int i => simp [PyData.eqv]
  | str s => simp [PyData.eqv]
  | list _ => cases h
  | tuple _ => cases h
  | dict _ => cases h
theorem pair_self : ∀ ds : List PyData, pairUp ds ds = ds.map fun x => .tuple [x, x]
  | [] => rfl
  | d :: r => by
    show .tuple [d, d] :: pairUp r r = _
    rw [pair_self r]
    rfl
theorem okS.ints {n : Nat} (ns : List Int) (h : ns.length < 1000) : okS (n + 2) (.tuple (ns.map .int)) ∧ okS (n + 2) (.list (ns.map .int)) := by
  have : ∀ x ∈ ns.map PyData.int, okS (n + 1) x := fun x hx => by
    obtain ⟨i, _, rfl⟩ := List.mem_map.mp hx
    exact .inl ⟨rfl, shp_int i⟩
  exact ⟨.inr ⟨_, .inr rfl, by rw [List.length_map]; exact h, this⟩, .inr ⟨_, .inl rfl, by rw [List.length_map]; exact h, this⟩⟩
end Ov

set_option Elab.async false
set_option linter.all false
set_option maxRecDepth 100000
set_option maxHeartbeats 4000000
namespace Ov
open PySem L2
theorem Bd.of_leaf {m : Nat} : ∀ {n : Nat} {d : PyData}, leaf m d → Bd m n d
  | 0, _, h => h
  | _ + 1, _, h => .inl h
def odd0 : List PyData := [.none, .bool true, .bool false, .int (-1), .int 0, .int 1, .str "", .str "row", .tuple [], .list [], .tuple [.int 0], .list [.int 0], .tuple [.int 0, .int 2], .int 1000000000000000000000000000000]
theorem odd0_ok {m n : Nat} : ∀ d ∈ odd0, Bd m (n + 1) d := by
  have li : ∀ i : Int, -(10 ^ 30) ≤ i ∧ i ≤ 10 ^ 30 → leaf m (.int i) := fun i h => ⟨by omega, by omega⟩
  have l0 : Bd m n (.int 0) := Bd.of_leaf (li 0 (by decide))
  have l2 : Bd m n (.int 2) := Bd.of_leaf (li 2 (by decide))
  intro d hd
  simp only [odd0, List.mem_cons, List.not_mem_nil, or_false] at hd
  rcases hd with rfl | rfl | rfl | rfl | rfl | rfl | rfl | rfl | rfl | rfl | rfl | rfl | rfl | rfl
  · exact .inl trivial
  · exact .inl trivial
  · exact .inl trivial
  · exact .inl (li _ (by decide))
  · exact .inl (li _ (by decide))
  · exact .inl (li _ (by decide))
  · exact .inl (show (reprText "").length ≤ 1100 by decide +kernel)
  · exact .inl (show (reprText "row").length ≤ 1100 by decide +kernel)
  · exact .inr ⟨[], .inr rfl, by simp, fun e he => by cases he⟩
  · exact .inr ⟨[], .inl rfl, by simp, fun e he => by cases he⟩
  · exact .inr ⟨_, .inr rfl, by simp; omega, fun e he => by rw [List.mem_singleton.mp he]; exact l0⟩
  · exact .inr ⟨_, .inl rfl, by simp; omega, fun e he => by rw [List.mem_singleton.mp he]; exact l0⟩
  · refine .inr ⟨_, .inr rfl, by simp; omega, fun e he => ?_⟩
    simp only [List.mem_cons, List.not_mem_nil, or_false] at he
    rcases he with rfl | rfl
    · exact l0
    · exact l2
  · exact .inl (li _ (by decide))
theorem mem_eraseIdx' {α : Type} {x : α} : ∀ {l : List α} {i : Nat}, x ∈ l.eraseIdx i → x ∈ l
  | [], _, h => by simp at h
  | a :: r, 0, h => List.mem_cons_of_mem _ h
  | a :: r, i + 1, h => by
    rw [List.eraseIdx_cons_succ] at h
    rcases List.mem_cons.mp h with h | h
    · rw [h]; exact List.mem_cons_self ..
    · exact List.mem_cons_of_mem _ (mem_eraseIdx' h)
theorem atI_in {α : Type} {ds : List α} {r : Int} (h0 : 0 ≤ r) (h1 : r < ds.length) : atI ds r = some (ds[r.toNat]'(by omega)) := by
  unfold atI ixN
  rw [if_pos h0, if_pos h1]
  exact List.getElem?_eq_getElem (by omega)
theorem v_neg (i : Int) : negD (.int i) = some (.int (-i)) := rfl
end Ov

set_option Elab.async false
set_option linter.all false
set_option maxRecDepth 100000
set_option maxHeartbeats 4000000
namespace Ov
open PySem L2
/-! codes -/
def mk (ms : List Int) (h : Int) : Int := (((ms.filter fun o => decide (h ≤ o)).idxOf h : Nat) : Int)
def mks (ms : List Int) : List Int := (sortI ms).map (mk ms)
def bld : List Int → List Int → List Int
  | h :: S, c :: cs => (bld S cs).take c.toNat ++ [h] ++ (bld S cs).drop c.toNat
  | _, _ => []
theorem idx_mid {h : Int} {l1 l2 : List Int} (n : h ∉ l1) : (l1 ++ h :: l2).idxOf h = l1.length := by
  induction l1 with
  | nil => simp
  | cons a r ih =>
    have n1 : h ∉ r := fun z => n (List.mem_cons_of_mem _ z)
    have n2 : ¬ a = h := fun z => n (by rw [z]; exact List.mem_cons_self ..)
    rw [List.cons_append, List.idxOf_cons]
    rw [show (a == h) = false by simpa using n2, ih n1]
    rfl
theorem mk_low {h : Int} {l1 l2 : List Int} (n : h ∉ l1) (lo : ∀ x ∈ l1 ++ l2, h < x) : mk (l1 ++ h :: l2) h = l1.length := by
  unfold mk
  rw [List.filter_eq_self.mpr fun x hx => ?_, idx_mid n]
  rcases List.mem_append.mp hx with hx | hx
  · exact decide_eq_true (Int.le_of_lt (lo x (List.mem_append_left _ hx)))
  · rcases List.mem_cons.mp hx with rfl | hx
    · exact decide_eq_true (Int.le_refl _)
    · exact decide_eq_true (Int.le_of_lt (lo x (List.mem_append_right _ hx)))
theorem mk_up {h k : Int} {l1 l2 : List Int} (lt : h < k) : mk (l1 ++ h :: l2) k = mk (l1 ++ l2) k := by
  unfold mk
  rw [List.filter_append, List.filter_cons, List.filter_append]
  simp [show ¬ k ≤ h by omega]
theorem bld_mk : ∀ {S ms : List Int}, S.Pairwise (· < ·) → ms.Perm S → bld S (S.map (mk ms)) = ms
  | [], ms, _, p => by rw [List.perm_nil.mp p]; rfl
  | h :: S, ms, pw, p => by
    obtain ⟨lo, pw'⟩ := List.pairwise_cons.mp pw
    have hin : h ∈ ms := p.symm.subset (List.mem_cons_self ..)
    obtain ⟨l1, l2, e1, e2, _⟩ := List.exists_erase_eq hin
    subst e2
    have p' : (l1 ++ l2).Perm S := (List.perm_middle.symm.trans p).cons_inv
    have lo' : ∀ x ∈ l1 ++ l2, h < x := fun x hx => lo x (p'.subset hx)
    have em : S.map (mk (l1 ++ h :: l2)) = S.map (mk (l1 ++ l2)) := List.map_congr_left fun k hk => mk_up (lo k hk)
    rw [List.map_cons, mk_low e1 lo', em]
    show (bld S (S.map (mk (l1 ++ l2)))).take (Int.toNat (l1.length : Int)) ++ [h] ++ (bld S (S.map (mk (l1 ++ l2)))).drop (Int.toNat (l1.length : Int)) = _
    rw [bld_mk pw' p', Int.toNat_natCast]
    simp
theorem mk_bld : ∀ {S cs : List Int}, S.Pairwise (· < ·) → cs.length = S.length → (∀ (k : Nat) (c : Int), cs[k]? = some c → 0 ≤ c ∧ c < (S.length : Int) - k) → (bld S cs).Perm S ∧ S.map (mk (bld S cs)) = cs
  | [], cs, _, hl, _ => by
    cases cs with
    | nil => exact ⟨.nil, rfl⟩
    | cons _ _ => cases hl
  | h :: S, [], _, hl, _ => by cases hl
  | h :: S, c :: cs, pw, hl, hb => by
    obtain ⟨lo, pw'⟩ := List.pairwise_cons.mp pw
    rw [List.length_cons, List.length_cons] at hl
    obtain ⟨p, e⟩ := mk_bld (S := S) (cs := cs) pw' (by omega) fun k x hx => by
      have := hb (k + 1) x hx
      rw [List.length_cons] at this
      omega
    have h0 := hb 0 c rfl
    rw [List.length_cons] at h0
    have lr := p.length_eq
    have lo' : ∀ x ∈ bld S cs, h < x := fun x hx => lo x (p.subset hx)
    show ((bld S cs).take c.toNat ++ [h] ++ (bld S cs).drop c.toNat).Perm (h :: S) ∧ (h :: S).map (mk ((bld S cs).take c.toNat ++ [h] ++ (bld S cs).drop c.toNat)) = c :: cs
    refine ⟨(ins_perm c.toNat).trans (p.cons h), ?_⟩
    rw [List.append_assoc, List.singleton_append, List.map_cons, mk_low (fun z => by have := lo' h (List.mem_of_mem_take z); omega) (fun x hx => lo' x (by rw [List.take_append_drop] at hx; exact hx)), List.length_take, lr]
    have em : S.map (mk ((bld S cs).take c.toNat ++ h :: (bld S cs).drop c.toNat)) = S.map (mk (bld S cs)) := List.map_congr_left fun k hk => by rw [mk_up (lo k hk), List.take_append_drop]
    rw [em, e]
    congr 1
    omega
theorem sortI_lt {ms : List Int} (nd : ms.Nodup) : (sortI ms).Pairwise (· < ·) := by
  have h1 := sortI_pw ms
  have h2 : (sortI ms).Nodup := (sortI_perm ms).nodup_iff.mpr nd
  exact (List.Pairwise.and h1 h2).imp fun ⟨a, b⟩ => by omega
theorem sort_perm {a b : List Int} (p : a.Perm b) : sortI a = sortI b := sort_uniq ((sortI_perm a).trans (p.trans (sortI_perm b).symm)) (sortI_pw a) (sortI_pw b)
theorem find_ints (h : Int) : ∀ l : List Int, h ∈ l → (l.map PyData.int).findIdx? (fun z => PyData.eqv z (.int h)) = some (l.idxOf h)
  | [], hm => by cases hm
  | a :: r, hm => by
    have ea : PyData.eqv (.int a) (.int h) = decide (a = h) := by
      have : (a == h) = decide (a = h) := by rw [Bool.eq_iff_iff]; simp
      simpa [PyData.eqv] using this
    rw [List.map_cons, List.findIdx?_cons, ea, List.idxOf_cons]
    by_cases e : a = h
    · simp [e]
    · have hm' : h ∈ r := (List.mem_cons.mp hm).resolve_left fun z => e z.symm
      rw [find_ints h r hm', show (a == h) = false by simpa using e]
      simp [e]
theorem idx_ok {l : List Int} {h : Int} (hm : h ∈ l) : idxD [.list (l.map .int), .int h] = some (.int (l.idxOf h : Nat)) := by
  unfold idxD
  simp only [shp_list, shp_int, Bool.and_self, if_true, find_ints h l hm]
  rfl
theorem filt_ge (ms : List Int) (h : Int) : ((ms.map PyData.int).filter fun d => match d with | .int i => decide (h ≤ i) | _ => false) = (ms.filter fun o => decide (h ≤ o)).map .int := by
  induction ms with
  | nil => rfl
  | cons a r ih =>
    rw [List.map_cons, List.filter_cons, List.filter_cons, ih]
    by_cases e : h ≤ a <;> simp [e]
theorem mem_filt {ms : List Int} {h : Int} (hm : h ∈ ms) : h ∈ ms.filter fun o => decide (h ≤ o) := List.mem_filter.mpr ⟨hm, decide_eq_true (Int.le_refl _)⟩
def isSq (d : PyData) (ms : List Int) : Prop := d = .list (ms.map .int) ∨ d = .tuple (ms.map .int)
theorem isSq.seq {d : PyData} {ms : List Int} (h : isSq d ms) : seqD d = some (ms.map .int) := by rcases h with rfl | rfl <;> rfl
theorem sort_ok {d : PyData} {ms : List Int} (h : isSq d ms) : sortD [d] = some (.list ((sortI ms).map .int)) := by
  unfold sortD
  simp [h.seq, intsD_map]
theorem code_of_ok {d : PyData} {ms : List Int} (hd : isSq d ms) (hl : ms.length ≤ 900) {h : Int} (hm : h ∈ ms) : F_code_of [d, .int h] = some (.dat (.int (mk ms h))) := by
  have comp : lcW (seqI (get 0)) (gN 2) (tb1 (op2 geD (get 2) (get 1))) (get 2) [2] [some (.dat d), some (.dat (.int h)), none] = some (.ok (.own (dats ((ms.filter fun o => decide (h ≤ o)).map .int))) [some (.dat d), some (.dat (.int h)), none]) := by
    refine lc_eq (ds := ms.map .int) (e := [some (.dat d), some (.dat (.int h)), none]) (e2 := [some (.dat d), some (.dat (.int h)), none]) ?_ rfl rfl ?_
    · simp [v_bind, v_ok, v_none, v_pure, v_lift, v_liftN, v_con, v_get, v_gkd, v_gko, v_gkc, v_vwd, v_vws, v_ok1, v_ownD, v_dctD, v_dk1, v_setOwn, v_putM, v_op2, v_op1, v_anil, v_acons, v_vws0, v_vwsC, v_cb, v_tupD, v_lstD, v_lstW, v_listW, v_dds0, v_ddsC, v_asB, v_tb1, v_andT, v_orT, v_notT, v_andV, v_orV, v_notV, v_ofB, v_ifE, v_pl, v_toW, v_fz, v_ofWd, v_ofWo, v_nxt, v_thenS, v_exprS, v_retS, v_retN, v_ifS, v_setS, v_parS, v_setIx, v_asD, v_asI, v_mthE, v_callA, v_callB, v_forS, v_argI, v_seqI, v_slD, v_poN, v_poS, v_isiE, v_isiE2, v_isNE, v_dnew, v_dinT, v_dputS, v_sortDct, v_rgE, v_rg2, v_unS, v_catW, v_chainE, v_add, v_sub, v_lt, v_le, v_gt, v_ge, v_eqI, v_eqB, v_eqS, v_ixL, v_ixT, v_lenL, v_lenT, v_abs, v_intI, v_intB, v_min, v_max, v_chk, hd.seq]
    · have := comp_all (env := [some (.dat d), some (.dat (.int h)), none]) (p := gN 2) (ft := tb1 (op2 geD (get 2) (get 1))) (fe := get 2) (vs := [2]) id (fun d => match d with | .int i => decide (h ≤ i) | _ => false) (ms.map .int) [] (by simp; omega) fun x hx => ?_
      · rw [this]
        simp [filt_ge]
      · obtain ⟨i, _, rfl⟩ := List.mem_map.mp hx
        refine ⟨[some (.dat d), some (.dat (.int h)), some (.dat (.int i))], rfl, ?_, fun _ => ?_, rfl, rfl⟩
        · simp [v_bind, v_ok, v_none, v_pure, v_lift, v_liftN, v_con, v_get, v_gkd, v_gko, v_gkc, v_vwd, v_vws, v_ok1, v_ownD, v_dctD, v_dk1, v_setOwn, v_putM, v_op2, v_op1, v_anil, v_acons, v_vws0, v_vwsC, v_cb, v_tupD, v_lstD, v_lstW, v_listW, v_dds0, v_ddsC, v_asB, v_tb1, v_andT, v_orT, v_notT, v_andV, v_orV, v_notV, v_ofB, v_ifE, v_pl, v_toW, v_fz, v_ofWd, v_ofWo, v_nxt, v_thenS, v_exprS, v_retS, v_retN, v_ifS, v_setS, v_parS, v_setIx, v_asD, v_asI, v_mthE, v_callA, v_callB, v_forS, v_argI, v_seqI, v_slD, v_poN, v_poS, v_isiE, v_isiE2, v_isNE, v_dnew, v_dinT, v_dputS, v_sortDct, v_rgE, v_rg2, v_unS, v_catW, v_chainE, v_add, v_sub, v_lt, v_le, v_gt, v_ge, v_eqI, v_eqB, v_eqS, v_ixL, v_ixT, v_lenL, v_lenT, v_abs, v_intI, v_intB, v_min, v_max, v_chk]
        · simp [v_bind, v_ok, v_none, v_pure, v_lift, v_liftN, v_con, v_get, v_gkd, v_gko, v_gkc, v_vwd, v_vws, v_ok1, v_ownD, v_dctD, v_dk1, v_setOwn, v_putM, v_op2, v_op1, v_anil, v_acons, v_vws0, v_vwsC, v_cb, v_tupD, v_lstD, v_lstW, v_listW, v_dds0, v_ddsC, v_asB, v_tb1, v_andT, v_orT, v_notT, v_andV, v_orV, v_notV, v_ofB, v_ifE, v_pl, v_toW, v_fz, v_ofWd, v_ofWo, v_nxt, v_thenS, v_exprS, v_retS, v_retN, v_ifS, v_setS, v_parS, v_setIx, v_asD, v_asI, v_mthE, v_callA, v_callB, v_forS, v_argI, v_seqI, v_slD, v_poN, v_poS, v_isiE, v_isiE2, v_isNE, v_dnew, v_dinT, v_dputS, v_sortDct, v_rgE, v_rg2, v_unS, v_catW, v_chainE, v_add, v_sub, v_lt, v_le, v_gt, v_ge, v_eqI, v_eqB, v_eqS, v_ixL, v_ixT, v_lenL, v_lenT, v_abs, v_intI, v_intB, v_min, v_max, v_chk]
  have ix := idx_ok (mem_filt hm)
  refine runA_eq rfl ⟨[some (.dat d), some (.dat (.int h)), none], ?_⟩
  show f_code_of [some (.dat d), some (.dat (.int h)), none] = _
  unfold f_code_of rmE
  generalize (ms.filter fun o => decide (h ≤ o)).map PyData.int = L at comp ix
  simp [v_bind, v_ok, v_none, v_pure, v_lift, v_liftN, v_con, v_get, v_gkd, v_gko, v_gkc, v_vwd, v_vws, v_ok1, v_ownD, v_dctD, v_dk1, v_setOwn, v_putM, v_op2, v_op1, v_anil, v_acons, v_vws0, v_vwsC, v_cb, v_tupD, v_lstD, v_lstW, v_listW, v_dds0, v_ddsC, v_asB, v_tb1, v_andT, v_orT, v_notT, v_andV, v_orV, v_notV, v_ofB, v_ifE, v_pl, v_toW, v_fz, v_ofWd, v_ofWo, v_nxt, v_thenS, v_exprS, v_retS, v_retN, v_ifS, v_setS, v_parS, v_setIx, v_asD, v_asI, v_mthE, v_callA, v_callB, v_forS, v_argI, v_seqI, v_slD, v_poN, v_poS, v_isiE, v_isiE2, v_isNE, v_dnew, v_dinT, v_dputS, v_sortDct, v_rgE, v_rg2, v_unS, v_catW, v_chainE, v_add, v_sub, v_lt, v_le, v_gt, v_ge, v_eqI, v_eqB, v_eqS, v_ixL, v_ixT, v_lenL, v_lenT, v_abs, v_intI, v_intB, v_min, v_max, v_chk, comp, isLD, ix]
  rfl
theorem codes_ok {d : PyData} {ms : List Int} (hd : isSq d ms) (hl : ms.length ≤ 900) : F_codes [d] = some (.dat (.tuple ((mks ms).map .int))) := by
  have so := sort_ok hd
  have comp : lcW (seqI (cb sortD (acons (get 0) anil))) (gN 1) yesT (fz (callA F_code_of (acons (get 0) (acons (get 1) anil)))) [1] [some (.dat d), none] = some (.ok (.own (dats ((mks ms).map .int))) [some (.dat d), none]) := by
    refine lc_eq (ds := (sortI ms).map .int) (e := [some (.dat d), none]) (e2 := [some (.dat d), none]) ?_ rfl rfl ?_
    · simp [v_bind, v_ok, v_none, v_pure, v_lift, v_liftN, v_con, v_get, v_gkd, v_gko, v_gkc, v_vwd, v_vws, v_ok1, v_ownD, v_dctD, v_dk1, v_setOwn, v_putM, v_op2, v_op1, v_anil, v_acons, v_vws0, v_vwsC, v_cb, v_tupD, v_lstD, v_lstW, v_listW, v_dds0, v_ddsC, v_asB, v_tb1, v_andT, v_orT, v_notT, v_andV, v_orV, v_notV, v_ofB, v_ifE, v_pl, v_toW, v_fz, v_ofWd, v_ofWo, v_nxt, v_thenS, v_exprS, v_retS, v_retN, v_ifS, v_setS, v_parS, v_setIx, v_asD, v_asI, v_mthE, v_callA, v_callB, v_forS, v_argI, v_seqI, v_slD, v_poN, v_poS, v_isiE, v_isiE2, v_isNE, v_dnew, v_dinT, v_dputS, v_sortDct, v_rgE, v_rg2, v_unS, v_catW, v_chainE, v_add, v_sub, v_lt, v_le, v_gt, v_ge, v_eqI, v_eqB, v_eqS, v_ixL, v_ixT, v_lenL, v_lenT, v_abs, v_intI, v_intB, v_min, v_max, v_chk, so, seqD]
    · have hsl := (sortI_perm ms).length_eq
      have := comp_map (env := [some (.dat d), none]) (p := gN 1) (ft := yesT) (fe := fz (callA F_code_of (acons (get 0) (acons (get 1) anil)))) (vs := [1]) (fun x => match x with | .int h => .int (mk ms h) | _ => .none) ((sortI ms).map .int) [] (by simp; omega) fun x hx => ?_
      · rw [this]
        simp [mks, Function.comp_def]
      · obtain ⟨h, hh, rfl⟩ := List.mem_map.mp hx
        have hc := code_of_ok hd hl ((sortI_perm ms).subset hh)
        refine ⟨[some (.dat d), some (.dat (.int h))], rfl, rfl, ?_, rfl, rfl⟩
        simp [v_bind, v_ok, v_none, v_pure, v_lift, v_liftN, v_con, v_get, v_gkd, v_gko, v_gkc, v_vwd, v_vws, v_ok1, v_ownD, v_dctD, v_dk1, v_setOwn, v_putM, v_op2, v_op1, v_anil, v_acons, v_vws0, v_vwsC, v_cb, v_tupD, v_lstD, v_lstW, v_listW, v_dds0, v_ddsC, v_asB, v_tb1, v_andT, v_orT, v_notT, v_andV, v_orV, v_notV, v_ofB, v_ifE, v_pl, v_toW, v_fz, v_ofWd, v_ofWo, v_nxt, v_thenS, v_exprS, v_retS, v_retN, v_ifS, v_setS, v_parS, v_setIx, v_asD, v_asI, v_mthE, v_callA, v_callB, v_forS, v_argI, v_seqI, v_slD, v_poN, v_poS, v_isiE, v_isiE2, v_isNE, v_dnew, v_dinT, v_dputS, v_sortDct, v_rgE, v_rg2, v_unS, v_catW, v_chainE, v_add, v_sub, v_lt, v_le, v_gt, v_ge, v_eqI, v_eqB, v_eqS, v_ixL, v_ixT, v_lenL, v_lenT, v_abs, v_intI, v_intB, v_min, v_max, v_chk, hc]
  refine runA_eq rfl ⟨[some (.dat d), none], ?_⟩
  show f_codes [some (.dat d), none] = _
  unfold f_codes
  generalize (mks ms).map PyData.int = L at comp
  simp [v_bind, v_ok, v_none, v_pure, v_lift, v_liftN, v_con, v_get, v_gkd, v_gko, v_gkc, v_vwd, v_vws, v_ok1, v_ownD, v_dctD, v_dk1, v_setOwn, v_putM, v_op2, v_op1, v_anil, v_acons, v_vws0, v_vwsC, v_cb, v_tupD, v_lstD, v_lstW, v_listW, v_dds0, v_ddsC, v_asB, v_tb1, v_andT, v_orT, v_notT, v_andV, v_orV, v_notV, v_ofB, v_ifE, v_pl, v_toW, v_fz, v_ofWd, v_ofWo, v_nxt, v_thenS, v_exprS, v_retS, v_retN, v_ifS, v_setS, v_parS, v_setIx, v_asD, v_asI, v_mthE, v_callA, v_callB, v_forS, v_argI, v_seqI, v_slD, v_poN, v_poS, v_isiE, v_isiE2, v_isNE, v_dnew, v_dinT, v_dputS, v_sortDct, v_rgE, v_rg2, v_unS, v_catW, v_chainE, v_add, v_sub, v_lt, v_le, v_gt, v_ge, v_eqI, v_eqB, v_eqS, v_ixL, v_ixT, v_lenL, v_lenT, v_abs, v_intI, v_intB, v_min, v_max, v_chk, comp, tupleD, seqD]
end Ov

set_option Elab.async false
set_option linter.all false
set_option maxRecDepth 100000
set_option maxHeartbeats 4000000
namespace Ov
open PySem L2
theorem build_for {a b : Option Wv} : ∀ {S cs : List Int} {w3 w4 : Option Wv}, cs.length = S.length → S.length ≤ 1000 → (∀ c ∈ cs, 0 ≤ c ∧ c < 2 ^ 62) →
    ∃ u3 u4, ∀ tail : List PyData, forM (gT (gsC (gN 3) (gsC (gN 4) gsN))) (exprS (mthE 2 insD (acons (get 4) (acons (get 3) anil)))) ((pairUp (S.map .int) (cs.map .int)).reverse ++ tail) [a, b, some (.own (dats [])), w3, w4] = forM (gT (gsC (gN 3) (gsC (gN 4) gsN))) (exprS (mthE 2 insD (acons (get 4) (acons (get 3) anil)))) tail [a, b, some (.own (dats ((bld S cs).map .int))), u3, u4]
  | [], cs, w3, w4, hl, _, _ => by
    cases cs with
    | nil => exact ⟨w3, w4, fun _ => rfl⟩
    | cons _ _ => cases hl
  | h :: S, [], _, _, hl, _, _ => by cases hl
  | h :: S, c :: cs, w3, w4, hl, hs, hc => by
    rw [List.length_cons, List.length_cons] at hl
    rw [List.length_cons] at hs
    obtain ⟨u3, u4, e⟩ := build_for (S := S) (cs := cs) (w3 := w3) (w4 := w4) (by omega) (by omega) fun x hx => hc x (List.mem_cons_of_mem _ hx)
    have h0 := hc c (List.mem_cons_self ..)
    have lb : ∀ {S cs : List Int}, (bld S cs).length ≤ S.length := fun {S} => by
      induction S with
      | nil => intro cs; show 0 ≤ _; omega
      | cons x S ih =>
        intro cs
        cases cs with
        | nil => show 0 ≤ _; omega
        | cons y cs =>
          have := ih (cs := cs)
          show ((bld S cs).take y.toNat ++ [x] ++ (bld S cs).drop y.toNat).length ≤ S.length + 1
          rw [(ins_perm y.toNat).length_eq, List.length_cons]
          omega
    have l1 := lb (S := S) (cs := cs)
    refine ⟨some (.dat (.int h)), some (.dat (.int c)), fun tail => ?_⟩
    have pr : (pairUp ((h :: S).map .int) ((c :: cs).map .int)).reverse = (pairUp (S.map .int) (cs.map .int)).reverse ++ [.tuple [.int h, .int c]] := by
      show (PyData.tuple [.int h, .int c] :: pairUp (S.map .int) (cs.map .int)).reverse = _
      rw [List.reverse_cons]
    rw [pr, List.append_assoc, e, List.singleton_append]
    refine (for_go (e := [a, b, some (.own (dats ((bld S cs).map .int))), some (.dat (.int h)), some (.dat (.int c))]) rfl (e2 := [a, b, some (.own (dats ((bld (h :: S) (c :: cs)).map .int))), some (.dat (.int h)), some (.dat (.int c))]) ?_)
    have hi : insD ((bld S cs).map .int) [.int c, .int h] = some ((bld (h :: S) (c :: cs)).map .int, .none) := by
      unfold insD
      simp only [h0.1, show c < 2 ^ 62 from h0.2, and_self, if_true]
      rw [v_sz _ (by rw [List.length_map]; omega)]
      show some (((bld S cs).map PyData.int).take c.toNat ++ [PyData.int h] ++ ((bld S cs).map PyData.int).drop c.toNat, PyData.none) = some (((bld S cs).take c.toNat ++ [h] ++ (bld S cs).drop c.toNat).map PyData.int, PyData.none)
      simp
    generalize (bld S cs).map PyData.int = B at hi
    generalize (bld (h :: S) (c :: cs)).map PyData.int = C at hi
    simp [v_bind, v_ok, v_none, v_pure, v_lift, v_liftN, v_con, v_get, v_gkd, v_gko, v_gkc, v_vwd, v_vws, v_ok1, v_ownD, v_dctD, v_dk1, v_setOwn, v_putM, v_op2, v_op1, v_anil, v_acons, v_vws0, v_vwsC, v_cb, v_tupD, v_lstD, v_lstW, v_listW, v_dds0, v_ddsC, v_asB, v_tb1, v_andT, v_orT, v_notT, v_andV, v_orV, v_notV, v_ofB, v_ifE, v_pl, v_toW, v_fz, v_ofWd, v_ofWo, v_nxt, v_thenS, v_exprS, v_retS, v_retN, v_ifS, v_setS, v_parS, v_setIx, v_asD, v_asI, v_mthE, v_callA, v_callB, v_forS, v_argI, v_seqI, v_slD, v_poN, v_poS, v_isiE, v_isiE2, v_isNE, v_dnew, v_dinT, v_dputS, v_sortDct, v_rgE, v_rg2, v_unS, v_catW, v_chainE, v_add, v_sub, v_lt, v_le, v_gt, v_ge, v_eqI, v_eqB, v_eqS, v_ixL, v_ixT, v_lenL, v_lenT, v_abs, v_intI, v_intB, v_min, v_max, v_chk, hi]
theorem lz_ok {d e : PyData} {ms cs : List Int} (hd : isSq d ms) (he : isSq e cs) {w2 w3 w4 : Option Wv} : lzE (acons (cb sortD (acons (get 0) anil)) (acons (get 1) anil)) [some (.dat d), some (.dat e), w2, w3, w4] = some (.ok (.dat (.list (pairUp ((sortI ms).map .int) (cs.map .int)))) [some (.dat d), some (.dat e), w2, w3, w4]) := by
  have so := sort_ok hd
  unfold lzE
  rw [argI_bind]
  have zz : zipM [.list ((sortI ms).map .int), e] = some (pairUp ((sortI ms).map .int) (cs.map .int)) := by
    show ((seqD (.list ((sortI ms).map .int))).bind fun ds => (seqD e).map fun es => pairUp ds es) = _
    rw [he.seq]
    rfl
  simp [v_bind, v_ok, v_none, v_pure, v_lift, v_liftN, v_con, v_get, v_gkd, v_gko, v_gkc, v_vwd, v_vws, v_ok1, v_ownD, v_dctD, v_dk1, v_setOwn, v_putM, v_op2, v_op1, v_anil, v_acons, v_vws0, v_vwsC, v_cb, v_tupD, v_lstD, v_lstW, v_listW, v_dds0, v_ddsC, v_asB, v_tb1, v_andT, v_orT, v_notT, v_andV, v_orV, v_notV, v_ofB, v_ifE, v_pl, v_toW, v_fz, v_ofWd, v_ofWo, v_nxt, v_thenS, v_exprS, v_retS, v_retN, v_ifS, v_setS, v_parS, v_setIx, v_asD, v_asI, v_mthE, v_callA, v_callB, v_forS, v_argI, v_seqI, v_slD, v_poN, v_poS, v_isiE, v_isiE2, v_isNE, v_dnew, v_dinT, v_dputS, v_sortDct, v_rgE, v_rg2, v_unS, v_catW, v_chainE, v_add, v_sub, v_lt, v_le, v_gt, v_ge, v_eqI, v_eqB, v_eqS, v_ixL, v_ixT, v_lenL, v_lenT, v_abs, v_intI, v_intB, v_min, v_max, v_chk, so, zz]
theorem row_with_ok {d e : PyData} {ms cs : List Int} (hd : isSq d ms) (he : isSq e cs) (hl : cs.length = ms.length) (hs : ms.length ≤ 1000) (hc : ∀ c ∈ cs, 0 ≤ c ∧ c < 2 ^ 62) : F_row_with [d, e] = some (.dat (.tuple ((bld (sortI ms) cs).map .int))) := by
  have hp := (sortI_perm ms).length_eq
  obtain ⟨u3, u4, f⟩ := build_for (a := some (.dat d)) (b := some (.dat e)) (S := sortI ms) (cs := cs) (w3 := none) (w4 := none) (by omega) (by omega) hc
  have f := f []
  rw [List.append_nil] at f
  have f := f.trans for_nil
  have lz := lz_ok hd he (w2 := some (.own (dats []))) (w3 := none) (w4 := none)
  generalize (bld (sortI ms) cs).map PyData.int = B at *
  generalize pairUp ((sortI ms).map PyData.int) (cs.map .int) = L at *
  · refine runA_eq rfl ⟨[some (.dat d), some (.dat e), some (.own (dats B)), u3, u4], ?_⟩
    show f_row_with [some (.dat d), some (.dat e), none, none, none] = _
    unfold f_row_with
    rw [then_nx (e := [some (.dat d), some (.dat e), some (.own (dats [])), none, none]) (by unfold s_row_with_0; simp [v_bind, v_ok, v_none, v_pure, v_lift, v_liftN, v_con, v_get, v_gkd, v_gko, v_gkc, v_vwd, v_vws, v_ok1, v_ownD, v_dctD, v_dk1, v_setOwn, v_putM, v_op2, v_op1, v_anil, v_acons, v_vws0, v_vwsC, v_cb, v_tupD, v_lstD, v_lstW, v_listW, v_dds0, v_ddsC, v_asB, v_tb1, v_andT, v_orT, v_notT, v_andV, v_orV, v_notV, v_ofB, v_ifE, v_pl, v_toW, v_fz, v_ofWd, v_ofWo, v_nxt, v_thenS, v_exprS, v_retS, v_retN, v_ifS, v_setS, v_parS, v_setIx, v_asD, v_asI, v_mthE, v_callA, v_callB, v_forS, v_argI, v_seqI, v_slD, v_poN, v_poS, v_isiE, v_isiE2, v_isNE, v_dnew, v_dinT, v_dputS, v_sortDct, v_rgE, v_rg2, v_unS, v_catW, v_chainE, v_add, v_sub, v_lt, v_le, v_gt, v_ge, v_eqI, v_eqB, v_eqS, v_ixL, v_ixT, v_lenL, v_lenT, v_abs, v_intI, v_intB, v_min, v_max, v_chk, sz]), then_nx (e := [some (.dat d), some (.dat e), some (.own (dats B)), u3, u4]) ?_]
    · unfold s_row_with_2
      simp [v_bind, v_ok, v_none, v_pure, v_lift, v_liftN, v_con, v_get, v_gkd, v_gko, v_gkc, v_vwd, v_vws, v_ok1, v_ownD, v_dctD, v_dk1, v_setOwn, v_putM, v_op2, v_op1, v_anil, v_acons, v_vws0, v_vwsC, v_cb, v_tupD, v_lstD, v_lstW, v_listW, v_dds0, v_ddsC, v_asB, v_tb1, v_andT, v_orT, v_notT, v_andV, v_orV, v_notV, v_ofB, v_ifE, v_pl, v_toW, v_fz, v_ofWd, v_ofWo, v_nxt, v_thenS, v_exprS, v_retS, v_retN, v_ifS, v_setS, v_parS, v_setIx, v_asD, v_asI, v_mthE, v_callA, v_callB, v_forS, v_argI, v_seqI, v_slD, v_poN, v_poS, v_isiE, v_isiE2, v_isNE, v_dnew, v_dinT, v_dputS, v_sortDct, v_rgE, v_rg2, v_unS, v_catW, v_chainE, v_add, v_sub, v_lt, v_le, v_gt, v_ge, v_eqI, v_eqB, v_eqS, v_ixL, v_ixT, v_lenL, v_lenT, v_abs, v_intI, v_intB, v_min, v_max, v_chk, tupleD, seqD]
    · unfold s_row_with_1 b_row_with_1 revI
      simp only [v_bind, v_ok, v_none, v_pure, v_lift, v_liftN, v_con, v_get, v_gkd, v_gko, v_gkc, v_vwd, v_vws, v_ok1, v_ownD, v_dctD, v_dk1, v_setOwn, v_putM, v_op2, v_op1, v_anil, v_acons, v_vws0, v_vwsC, v_cb, v_tupD, v_lstD, v_lstW, v_listW, v_dds0, v_ddsC, v_asB, v_tb1, v_andT, v_orT, v_notT, v_andV, v_orV, v_notV, v_ofB, v_ifE, v_pl, v_toW, v_fz, v_ofWd, v_ofWo, v_nxt, v_thenS, v_exprS, v_retS, v_retN, v_ifS, v_setS, v_parS, v_setIx, v_asD, v_asI, v_mthE, v_callA, v_callB, v_forS, v_argI, v_seqI, v_slD, v_poN, v_poS, v_isiE, v_isiE2, v_isNE, v_dnew, v_dinT, v_dputS, v_sortDct, v_rgE, v_rg2, v_unS, v_catW, v_chainE, v_add, v_sub, v_lt, v_le, v_gt, v_ge, v_eqI, v_eqB, v_eqS, v_ixL, v_ixT, v_lenL, v_lenT, v_abs, v_intI, v_intB, v_min, v_max, v_chk, lz, seqD, Option.map_some]
      exact f
/-! whether they are codes -/
def chkM (n k : Int) : PyData → Bool
  | .int i => decide (0 ≤ i) && decide (i < n - k)
  | _ => false
def isMk (n : Nat) : PyData → Bool
  | .tuple ds => decide (ds.length = n) && (enumL 0 ds).all fun p => match p with | .tuple [.int k, x] => chkM n k x | _ => false
  | _ => false
theorem chk_ev {g : PyData → Option Wv} (hg : ∀ d, g d = some (.dat (.bool (isI d)))) : True := trivial
end Ov

set_option Elab.async false
set_option linter.all false
set_option maxRecDepth 100000
set_option maxHeartbeats 4000000
namespace Ov
/-! runs: the intervals, by their mathematics alone -/
abbrev Iv := Int × Int
def rix (iv : List Iv) (c : Int) : Nat := (iv.filter fun p => decide (p.2 < c)).length
def lf (at_ : Nat) : Nat := at_ - 1
def rg (iv : List Iv) (at_ : Nat) : Nat := min (at_ + 1) (iv.length - 1)
def nx (iv : List Iv) (a : Nat) : List Iv :=
  iv.take (lf a) ++ [((iv.getD (lf a) (0, 0)).1, (iv.getD (rg iv a) (0, 0)).2 - 1)] ++ (iv.drop (rg iv a + 1)).map fun p => (p.1 - 1, p.2 - 1)
def Pt : Int → Int → List Iv → Prop
  | s, e, [] => s = e
  | s, e, p :: r => p.1 = s ∧ s ≤ p.2 ∧ Pt (p.2 + 1) e r
theorem Pt.le : ∀ {iv : List Iv} {s e : Int}, Pt s e iv → s ≤ e
  | [], s, e, h => by have : s = e := h; omega
  | p :: r, s, e, h => by have := Pt.le h.2.2; have := h.2.1; omega
theorem Pt.app : ∀ {a b : List Iv} {s m e : Int}, Pt s m a → Pt m e b → Pt s e (a ++ b)
  | [], b, s, m, e, h, k => by have : s = m := h; rw [this]; exact k
  | p :: r, b, s, m, e, h, k => ⟨h.1, h.2.1, Pt.app h.2.2 k⟩
theorem Pt.split : ∀ {a b : List Iv} {s e : Int}, Pt s e (a ++ b) → ∃ m, Pt s m a ∧ Pt m e b
  | [], b, s, e, h => ⟨s, rfl, h⟩
  | p :: r, b, s, e, h => by
    obtain ⟨m, h1, h2⟩ := Pt.split (a := r) h.2.2
    exact ⟨m, ⟨h.1, h.2.1, h1⟩, h2⟩
theorem Pt.down : ∀ {a : List Iv} {s e : Int}, Pt s e a → Pt (s - 1) (e - 1) (a.map fun p => (p.1 - 1, p.2 - 1))
  | [], s, e, h => by have : s = e := h; show s - 1 = e - 1; omega
  | p :: r, s, e, h => by
    refine ⟨by show p.1 - 1 = s - 1; rw [h.1], by show s - 1 ≤ p.2 - 1; have := h.2.1; omega, ?_⟩
    have := Pt.down h.2.2
    rw [show p.2 + 1 - 1 = p.2 - 1 + 1 by omega] at this
    exact this
theorem rix_low : ∀ {iv : List Iv} {s e c : Int}, Pt s e iv → c ≤ s → rix iv c = 0
  | [], s, e, c, _, _ => rfl
  | p :: r, s, e, c, h, k => by
    have h2 := h.2.1
    have := rix_low h.2.2 (c := c) (by omega)
    unfold rix at *
    rw [List.filter_cons, show decide (p.2 < c) = false from decide_eq_false (by omega)]
    exact this
theorem rix_at : ∀ {iv : List Iv} {s e c : Int}, Pt s e iv → s ≤ c → c < e → ∃ p : Iv, iv[rix iv c]? = some p ∧ p.1 ≤ c ∧ c ≤ p.2 ∧ s ≤ p.1 ∧ p.2 < e
  | [], s, e, c, h, h1, h2 => by have : s = e := h; omega
  | p :: r, s, e, c, h, h1, h2 => by
    have hp := h.2.1
    have le := Pt.le h.2.2
    by_cases k : p.2 < c
    · obtain ⟨q, e1, e2, e3, e4, e5⟩ := rix_at h.2.2 (c := c) (by omega) h2
      refine ⟨q, ?_, e2, e3, by omega, e5⟩
      have : rix (p :: r) c = rix r c + 1 := by
        unfold rix
        rw [List.filter_cons, show decide (p.2 < c) = true from decide_eq_true k]
        rfl
      rw [this]
      exact e1
    · have : rix (p :: r) c = 0 := by
        unfold rix
        rw [List.filter_cons, show decide (p.2 < c) = false from decide_eq_false k]
        exact rix_low h.2.2 (by omega)
      rw [this]
      refine ⟨p, rfl, ?_, by omega, ?_, by omega⟩
      · rw [h.1]; exact h1
      · rw [h.1]; exact Int.le_refl _
theorem rix_in : ∀ {iv : List Iv} {s e c : Int} {k : Nat} {p : Iv}, Pt s e iv → iv[k]? = some p → p.1 ≤ c → c ≤ p.2 → rix iv c = k
  | [], s, e, c, k, p, h, h1, _, _ => by simp at h1
  | q :: r, s, e, c, 0, p, h, h1, h2, h3 => by
    have : q = p := by simpa using h1
    subst this
    unfold rix
    rw [List.filter_cons, show decide (q.2 < c) = false from decide_eq_false (by omega)]
    exact rix_low h.2.2 (by omega)
  | q :: r, s, e, c, k + 1, p, h, h1, h2, h3 => by
    have h1 : r[k]? = some p := by simpa using h1
    have ih := rix_in h.2.2 h1 h2 h3
    have lo : ∀ {iv : List Iv} {s e : Int} {k : Nat}, Pt s e iv → iv[k]? = some p → s ≤ p.1 := fun {iv} => by
      induction iv with
      | nil => intro s e k _ z; simp at z
      | cons a t ih =>
        intro s e k hh z
        have := hh.2.1
        cases k with
        | zero => have : a = p := by simpa using z
                  subst this; rw [hh.1]; exact Int.le_refl _
        | succ k => have := ih hh.2.2 (k := k) (by simpa using z); omega
    have := lo h.2.2 h1
    unfold rix at *
    rw [List.filter_cons, show decide (q.2 < c) = true from decide_eq_true (by omega)]
    show (List.filter _ r).length + 1 = _
    rw [ih]
theorem lt_of_get {α : Type} {l : List α} {k : Nat} {x : α} (h : l[k]? = some x) : k < l.length := (List.getElem?_eq_some_iff.mp h).1
/-- the runs of the next person -/
theorem nx_pt {iv : List Iv} {m : Int} {a : Nat} (h : Pt 0 m iv) (hm : 2 ≤ m) (ha : a < iv.length) : Pt 0 (m - 1) (nx iv a) := by
  have hl : lf a < iv.length := by unfold lf; omega
  have hr : rg iv a < iv.length := by unfold rg; omega
  have hlr : lf a ≤ rg iv a := by unfold lf rg; omega
  -- iv = A ++ (first :: M') ++ C
  have e1 : iv = iv.take (lf a) ++ ((iv.drop (lf a)).take (rg iv a + 1 - lf a) ++ iv.drop (rg iv a + 1)) := by
    have : iv.drop (rg iv a + 1) = (iv.drop (lf a)).drop (rg iv a + 1 - lf a) := by rw [List.drop_drop]; congr 1; omega
    rw [this, List.take_append_drop, List.take_append_drop]
  have h' := h
  rw [e1] at h'
  obtain ⟨x, p1, p2⟩ := Pt.split h'
  obtain ⟨y, p3, p4⟩ := Pt.split p2
  have gl : iv[lf a]? = some (iv[lf a]) := List.getElem?_eq_getElem hl
  have gr : iv[rg iv a]? = some (iv[rg iv a]) := List.getElem?_eq_getElem hr
  -- the ends of the middle part
  have mid : ∀ {M : List Iv} {s e : Int} {k : Nat} {p q : Iv}, Pt s e M → M.length = k + 1 → M[0]? = some p → M[k]? = some q → p.1 = s ∧ q.2 + 1 = e ∧ (k : Int) + s ≤ q.2 := fun {M} => by
    induction M with
    | nil => intro s e k p q _ z; simp at z
    | cons b t ih =>
      intro s e k p q hp hk h0 hq
      have : b = p := by simpa using h0
      subst this
      refine ⟨hp.1, ?_⟩
      cases k with
      | zero =>
        have : b = q := by simpa using hq
        subst this
        have : t = [] := by cases t with | nil => rfl | cons _ _ => simp at hk
        subst this
        have z : b.2 + 1 = e := hp.2.2
        have := hp.2.1
        exact ⟨z, by omega⟩
      | succ k =>
        cases t with
        | nil => simp at hk
        | cons b' t' =>
          have hk' : (b' :: t').length = k + 1 := by rw [List.length_cons] at hk; omega
          obtain ⟨_, z2, z3⟩ := ih hp.2.2 hk' (p := b') rfl (by simpa using hq)
          have := hp.2.1
          exact ⟨z2, by omega⟩
  have lm : ((iv.drop (lf a)).take (rg iv a + 1 - lf a)).length = (rg iv a - lf a) + 1 := by
    rw [List.length_take, List.length_drop]; omega
  obtain ⟨q1, q2, q3⟩ := mid p3 lm (p := iv[lf a]) (q := iv[rg iv a]) (by
    rw [List.getElem?_take_of_lt (by omega), List.getElem?_drop, Nat.add_zero]; exact gl) (by
    rw [List.getElem?_take_of_lt (by omega), List.getElem?_drop, show lf a + (rg iv a - lf a) = rg iv a by omega]; exact gr)
  have x0 := Pt.le p1
  have y0 := Pt.le p4
  unfold nx
  rw [List.getD_eq_getElem?_getD, gl, List.getD_eq_getElem?_getD, gr, List.append_assoc]
  refine Pt.app p1 ⟨q1, ?_, ?_⟩
  · show x ≤ (iv[rg iv a]).2 - 1
    by_cases k : lf a < rg iv a
    · have : (1 : Int) ≤ ((rg iv a - lf a : Nat) : Int) := by omega
      omega
    · -- one run alone: it is all there is
      have l1 : iv.length = 1 := by unfold lf rg at k; omega
      have a0 : lf a = 0 := by omega
      have r0 : rg iv a = 0 := by omega
      have t0 : iv.take (lf a) = [] := by rw [a0]; rfl
      rw [t0] at p1
      have : (0 : Int) = x := p1
      have d0 : iv.drop (rg iv a + 1) = [] := List.drop_eq_nil_of_le (by omega)
      rw [d0] at p4
      have : y = m := p4
      omega
  · have := Pt.down p4
    have z : (iv[rg iv a]).2 - 1 + 1 = y - 1 := by omega
    show Pt ((iv[rg iv a]).2 - 1 + 1) (m - 1) _
    rw [z]
    exact this
theorem nx_len {iv : List Iv} {a : Nat} : (nx iv a).length ≤ iv.length + 1 := by
  unfold nx
  simp only [List.length_append, List.length_take, List.length_map, List.length_drop, List.length_singleton]
  unfold lf rg
  omega
/-- the runs by the codes -/
def rns : List Iv → List Int → List Iv
  | _, [] => []
  | iv, c :: cs => iv.getD (rix iv c) (0, 0) :: rns (nx iv (rix iv c)) cs
def ivs : List Iv → List Int → List (List Iv)
  | _, [] => []
  | iv, c :: cs => iv :: ivs (nx iv (rix iv c)) cs
/-- codes within their bounds -/
def Vd : Int → List Int → Prop
  | _, [] => True
  | m, c :: cs => 0 ≤ c ∧ c < m ∧ Vd (m - 1) cs
def inR (p : Iv) (c : Int) : Prop := p.1 ≤ c ∧ c ≤ p.2
/-- as many people as codes -/
theorem rns_ok : ∀ {cs : List Int} {iv : List Iv} {m : Int}, Pt 0 m iv → m = cs.length → Vd m cs → ∀ (j : Nat) (p : Iv) (c : Int), (rns iv cs)[j]? = some p → cs[j]? = some c → 0 ≤ p.1 ∧ p.1 ≤ c ∧ c ≤ p.2 ∧ p.2 < m - j
  | [], iv, m, h, hm, v, j, p, c, h1, h2 => by simp at h2
  | c :: cs, iv, m, h, hm, v, j, p, c', h1, h2 => by
    obtain ⟨q, e1, e2, e3, e4, e5⟩ := rix_at h v.1 v.2.1
    cases j with
    | zero =>
      have : c = c' := by simpa using h2
      subst this
      have : p = q := by
        simp only [rns, List.getElem?_cons_zero, List.getD_eq_getElem?_getD, e1, Option.getD_some, Option.some.injEq] at h1
        exact h1.symm
      subst this
      exact ⟨e4, e2, e3, by simpa using e5⟩
    | succ j =>
      have m2 : 2 ≤ m := by
        have : j < cs.length := lt_of_get (by simpa using h2)
        rw [List.length_cons] at hm
        omega
      have := rns_ok (nx_pt h m2 (lt_of_get e1)) (by rw [List.length_cons] at hm; omega) v.2.2 j p c' (by simpa [rns] using h1) (by simpa using h2)
      refine ⟨this.1, this.2.1, this.2.2.1, ?_⟩
      have := this.2.2.2
      rw [show ((j + 1 : Nat) : Int) = (j : Int) + 1 by rfl]
      omega
theorem rns_len : ∀ (cs : List Int) (iv : List Iv), (rns iv cs).length = cs.length
  | [], _ => rfl
  | c :: cs, iv => by rw [rns, List.length_cons, List.length_cons, rns_len cs]
theorem rns_cons {c : Int} {cs : List Int} {iv : List Iv} {p : Iv} (e : iv[rix iv c]? = some p) : rns iv (c :: cs) = p :: rns (nx iv (rix iv c)) cs := by
  rw [rns, List.getD_eq_getElem?_getD, e]
  rfl
/-- codes in the runs: the same runs -/
theorem rns_same : ∀ {cs ds : List Int} {iv : List Iv} {m : Int}, Pt 0 m iv → m = cs.length → Vd m cs → ds.length = cs.length → (∀ (j : Nat) (p : Iv) (d : Int), (rns iv cs)[j]? = some p → ds[j]? = some d → inR p d) → rns iv ds = rns iv cs ∧ Vd m ds
  | [], ds, iv, m, h, hm, v, hl, hd => by
    cases ds with
    | nil => exact ⟨rfl, trivial⟩
    | cons _ _ => cases hl
  | c :: cs, [], iv, m, h, hm, v, hl, hd => by cases hl
  | c :: cs, d :: ds, iv, m, h, hm, v, hl, hd => by
    obtain ⟨q, e1, e2, e3, e4, e5⟩ := rix_at h v.1 v.2.1
    have rc := rns_cons (cs := cs) e1
    have h0 := hd 0 q d (by rw [rc]; rfl) rfl
    have er : rix iv d = rix iv c := rix_in h e1 h0.1 h0.2
    have rd : rns iv (d :: ds) = q :: rns (nx iv (rix iv c)) ds := by rw [rns_cons (cs := ds) (p := q) (by rw [er]; exact e1), er]
    have hl' : ds.length = cs.length := by simpa using hl
    have h1 := h0.1
    have h2 := h0.2
    by_cases k : cs = []
    · subst k
      have : ds = [] := List.length_eq_zero_iff.mp hl'
      subst this
      exact ⟨by rw [rc, rd], by omega, by omega, trivial⟩
    · have kl : cs.length ≠ 0 := fun z => k (List.length_eq_zero_iff.mp z)
      rw [List.length_cons] at hm
      obtain ⟨z1, z2⟩ := rns_same (nx_pt h (by omega) (lt_of_get e1)) (by omega) v.2.2 hl' fun j p x hp hx => hd (j + 1) p x (by rw [rc]; exact hp) hx
      exact ⟨by rw [rc, rd, z1], by omega, by omega, z2⟩
/-- the first code outside of its run: the runs are the same before, another one there -/
theorem rns_out : ∀ {cs ds : List Int} {iv : List Iv} {m : Int} {k : Nat}, Pt 0 m iv → m = cs.length → Vd m cs → Vd m ds → ds.length = cs.length → k < cs.length →
    (∀ (j : Nat) (p : Iv) (d : Int), j < k → (rns iv cs)[j]? = some p → ds[j]? = some d → inR p d) → (∀ (p : Iv) (d : Int), (rns iv cs)[k]? = some p → ds[k]? = some d → ¬ inR p d) →
    (rns iv ds).take k = (rns iv cs).take k ∧ (rns iv ds)[k]? ≠ (rns iv cs)[k]?
  | [], ds, iv, m, k, h, hm, v, v', hl, hk, hd, ho => by simp at hk
  | c :: cs, [], iv, m, k, h, hm, v, v', hl, hk, hd, ho => by cases hl
  | c :: cs, d :: ds, iv, m, k, h, hm, v, v', hl, hk, hd, ho => by
    obtain ⟨q, e1, e2, e3, e4, e5⟩ := rix_at h v.1 v.2.1
    obtain ⟨q', e1', e2', e3', e4', e5'⟩ := rix_at h v'.1 v'.2.1
    have rc := rns_cons (cs := cs) e1
    have rd := rns_cons (cs := ds) e1'
    have hl' : ds.length = cs.length := by simpa using hl
    cases k with
    | zero =>
      refine ⟨rfl, ?_⟩
      rw [rc, rd]
      intro z
      have : q' = q := by simpa using z
      subst this
      exact ho q' d (by rw [rc]; rfl) rfl ⟨e2', e3'⟩
    | succ k =>
      have h0 := hd 0 q d (by omega) (by rw [rc]; rfl) rfl
      have er : rix iv d = rix iv c := rix_in h e1 h0.1 h0.2
      rw [er] at e1' rd
      have : q' = q := by rw [e1] at e1'; exact (Option.some.inj e1').symm
      subst this
      rw [List.length_cons] at hm hk
      obtain ⟨z1, z2⟩ := rns_out (k := k) (nx_pt h (by omega) (lt_of_get e1)) (by omega) v.2.2 v'.2.2 hl' (by omega) (fun j p x hj hp hx => hd (j + 1) p x (by omega) (by rw [rc]; exact hp) hx) fun p x hp hx => ho p x (by rw [rc]; exact hp) hx
      rw [rc, rd]
      exact ⟨by rw [List.take_succ_cons, List.take_succ_cons, z1], by simpa using z2⟩
def fiv (n : Nat) : List Iv := (List.range n).map fun i : Nat => ((i : Int), (i : Int))
theorem fiv_pt : ∀ n : Nat, Pt 0 n (fiv n)
  | 0 => rfl
  | n + 1 => by
    unfold fiv
    rw [List.range_succ, List.map_append]
    exact Pt.app (fiv_pt n) ⟨rfl, Int.le_refl _, rfl⟩
theorem vd_of {cs : List Int} {m : Int} (h : ∀ (j : Nat) (c : Int), cs[j]? = some c → 0 ≤ c ∧ c < m - j) : Vd m cs := by
  induction cs generalizing m with
  | nil => trivial
  | cons c cs ih =>
    have h0 := h 0 c rfl
    refine ⟨h0.1, by have := h0.2; omega, ih fun j x hx => ?_⟩
    have := h (j + 1) x hx
    rw [show ((j + 1 : Nat) : Int) = (j : Int) + 1 by rfl] at this
    omega
theorem vd_get : ∀ {cs : List Int} {m : Int}, Vd m cs → ∀ (j : Nat) (c : Int), cs[j]? = some c → 0 ≤ c ∧ c < m - j
  | [], m, _, j, c, h => by simp at h
  | x :: cs, m, v, 0, c, h => by
    have : x = c := by simpa using h
    subst this
    exact ⟨v.1, by have := v.2.1; omega⟩
  | x :: cs, m, v, j + 1, c, h => by
    have := vd_get v.2.2 j c (by simpa using h)
    rw [show ((j + 1 : Nat) : Int) = (j : Int) + 1 by rfl]
    omega
end Ov

set_option Elab.async false
set_option linter.all false
set_option maxRecDepth 100000
set_option maxHeartbeats 4000000
namespace Ov
open PySem L2
def pD (p : Iv) : PyData := .tuple [.int p.1, .int p.2]
def ivD (iv : List Iv) : List PyData := iv.map pD
theorem iv_len (iv : List Iv) : (ivD iv).length = iv.length := List.length_map _
theorem iv_at {iv : List Iv} {k : Nat} {p : Iv} (h : iv[k]? = some p) : atI (ivD iv) (k : Int) = some (pD p) := by
  have hk := lt_of_get h
  rw [atI_in (by omega) (by rw [iv_len]; omega)]
  have : (ivD iv)[k]? = some (pD p) := by unfold ivD; rw [List.getElem?_map, h]; rfl
  rw [← this]
  simp
theorem rng_nat (n : Nat) : rngL 0 (n : Int) = (List.range n).map fun k : Nat => (k : Int) := by
  unfold rngL
  simp
theorem rngD_ok {n : Nat} (h : n ≤ 1000) : rngD [.int (n : Int)] = some ((rngL 0 (n : Int)).map .int) := by
  have g : -(2 ^ 62) ≤ (n : Int) ∧ (n : Int) < 2 ^ 62 := ⟨by omega, by omega⟩
  generalize (n : Int) = N at g ⊢
  exact if_pos g
theorem first_ok {n : Nat} (h : n ≤ 1000) : F_first_intervals [.int (n : Int)] = some (.dat (.list (ivD (fiv n)))) := by
  have rg := rngD_ok h
  have comp : lcW (argI rngD (acons (get 0) anil)) (gN 1) yesT (tupD (acons (get 1) (acons (get 1) anil))) [1] [some (.dat (.int (n : Int))), none] = some (.ok (.own (dats (ivD (fiv n)))) [some (.dat (.int (n : Int))), none]) := by
    refine lc_eq (ds := (rngL 0 (n : Int)).map .int) (e := [some (.dat (.int (n : Int))), none]) (e2 := [some (.dat (.int (n : Int))), none]) (by simp [v_bind, v_ok, v_none, v_pure, v_lift, v_liftN, v_con, v_get, v_gkd, v_gko, v_gkc, v_vwd, v_vws, v_ok1, v_ownD, v_dctD, v_dk1, v_setOwn, v_putM, v_op2, v_op1, v_anil, v_acons, v_vws0, v_vwsC, v_cb, v_tupD, v_lstD, v_lstW, v_listW, v_dds0, v_ddsC, v_asB, v_tb1, v_andT, v_orT, v_notT, v_andV, v_orV, v_notV, v_ofB, v_ifE, v_pl, v_toW, v_fz, v_ofWd, v_ofWo, v_nxt, v_thenS, v_exprS, v_retS, v_retN, v_ifS, v_setS, v_parS, v_setIx, v_asD, v_asI, v_mthE, v_callA, v_callB, v_forS, v_argI, v_seqI, v_slD, v_poN, v_poS, v_isiE, v_isiE2, v_isNE, v_dnew, v_dinT, v_dputS, v_sortDct, v_rgE, v_rg2, v_unS, v_catW, v_chainE, v_add, v_sub, v_lt, v_le, v_gt, v_ge, v_eqI, v_eqB, v_eqS, v_ixL, v_ixT, v_lenL, v_lenT, v_abs, v_intI, v_intB, v_min, v_max, v_chk, rg]) rfl rfl ?_
    refine (comp_map (env := [some (.dat (.int (n : Int))), none]) (fun d => .tuple [d, d]) ((rngL 0 (n : Int)).map .int) [] (by rw [rng_nat]; simp; omega) fun d hd => ?_).trans ?_
    · obtain ⟨i, _, rfl⟩ := List.mem_map.mp hd
      exact ⟨[some (.dat (.int (n : Int))), some (.dat (.int i))], rfl, rfl, by simp [v_bind, v_ok, v_none, v_pure, v_lift, v_liftN, v_con, v_get, v_gkd, v_gko, v_gkc, v_vwd, v_vws, v_ok1, v_ownD, v_dctD, v_dk1, v_setOwn, v_putM, v_op2, v_op1, v_anil, v_acons, v_vws0, v_vwsC, v_cb, v_tupD, v_lstD, v_lstW, v_listW, v_dds0, v_ddsC, v_asB, v_tb1, v_andT, v_orT, v_notT, v_andV, v_orV, v_notV, v_ofB, v_ifE, v_pl, v_toW, v_fz, v_ofWd, v_ofWo, v_nxt, v_thenS, v_exprS, v_retS, v_retN, v_ifS, v_setS, v_parS, v_setIx, v_asD, v_asI, v_mthE, v_callA, v_callB, v_forS, v_argI, v_seqI, v_slD, v_poN, v_poS, v_isiE, v_isiE2, v_isNE, v_dnew, v_dinT, v_dputS, v_sortDct, v_rgE, v_rg2, v_unS, v_catW, v_chainE, v_add, v_sub, v_lt, v_le, v_gt, v_ge, v_eqI, v_eqB, v_eqS, v_ixL, v_ixT, v_lenL, v_lenT, v_abs, v_intI, v_intB, v_min, v_max, v_chk, sz], rfl, rfl⟩
    · rw [rng_nat]
      simp [ivD, fiv, pD, Function.comp_def]
  refine runA_eq rfl ⟨[some (.dat (.int (n : Int))), none], ?_⟩
  show f_first_intervals [some (.dat (.int (n : Int))), none] = _
  unfold f_first_intervals
  generalize ivD (fiv n) = L at comp
  simp [v_bind, v_ok, v_none, v_pure, v_lift, v_liftN, v_con, v_get, v_gkd, v_gko, v_gkc, v_vwd, v_vws, v_ok1, v_ownD, v_dctD, v_dk1, v_setOwn, v_putM, v_op2, v_op1, v_anil, v_acons, v_vws0, v_vwsC, v_cb, v_tupD, v_lstD, v_lstW, v_listW, v_dds0, v_ddsC, v_asB, v_tb1, v_andT, v_orT, v_notT, v_andV, v_orV, v_notV, v_ofB, v_ifE, v_pl, v_toW, v_fz, v_ofWd, v_ofWo, v_nxt, v_thenS, v_exprS, v_retS, v_retN, v_ifS, v_setS, v_parS, v_setIx, v_asD, v_asI, v_mthE, v_callA, v_callB, v_forS, v_argI, v_seqI, v_slD, v_poN, v_poS, v_isiE, v_isiE2, v_isNE, v_dnew, v_dinT, v_dputS, v_sortDct, v_rgE, v_rg2, v_unS, v_catW, v_chainE, v_add, v_sub, v_lt, v_le, v_gt, v_ge, v_eqI, v_eqB, v_eqS, v_ixL, v_ixT, v_lenL, v_lenT, v_abs, v_intI, v_intB, v_min, v_max, v_chk, comp]
def lowP (c : Int) : PyData → Bool
  | .tuple [_, .int q] => decide (q < c)
  | _ => false
def sndP : PyData → PyData
  | .tuple [_, x] => x
  | _ => .none
theorem rix_data (iv : List Iv) (c : Int) : ((ivD iv).filter (lowP c)).length = rix iv c := by
  unfold rix ivD
  induction iv with
  | nil => rfl
  | cons p r ih =>
    rw [List.map_cons, List.filter_cons, List.filter_cons]
    show (if decide (p.2 < c) = true then _ else _ : List PyData).length = (if decide (p.2 < c) = true then _ else _ : List Iv).length
    split
    · rw [List.length_cons, List.length_cons, ih]
    · exact ih
theorem index_ok {iv : List Iv} {c : Int} (h : iv.length ≤ 1000) : F_run_index [.list (ivD iv), .int c] = some (.dat (.int (rix iv c : Nat))) := by
  have comp : lcW (seqI (get 0)) (gT (gsC (gN 2) (gsC (gN 3) gsN))) (tb1 (op2 ltD (get 3) (get 1))) (get 3) [2, 3] [some (.dat (.list (ivD iv))), some (.dat (.int c)), none, none] = some (.ok (.own (dats (((ivD iv).filter (lowP c)).map sndP))) [some (.dat (.list (ivD iv))), some (.dat (.int c)), none, none]) := by
    refine lc_eq (ds := ivD iv) (e := [some (.dat (.list (ivD iv))), some (.dat (.int c)), none, none]) (e2 := [some (.dat (.list (ivD iv))), some (.dat (.int c)), none, none]) (by simp [v_bind, v_ok, v_none, v_pure, v_lift, v_liftN, v_con, v_get, v_gkd, v_gko, v_gkc, v_vwd, v_vws, v_ok1, v_ownD, v_dctD, v_dk1, v_setOwn, v_putM, v_op2, v_op1, v_anil, v_acons, v_vws0, v_vwsC, v_cb, v_tupD, v_lstD, v_lstW, v_listW, v_dds0, v_ddsC, v_asB, v_tb1, v_andT, v_orT, v_notT, v_andV, v_orV, v_notV, v_ofB, v_ifE, v_pl, v_toW, v_fz, v_ofWd, v_ofWo, v_nxt, v_thenS, v_exprS, v_retS, v_retN, v_ifS, v_setS, v_parS, v_setIx, v_asD, v_asI, v_mthE, v_callA, v_callB, v_forS, v_argI, v_seqI, v_slD, v_poN, v_poS, v_isiE, v_isiE2, v_isNE, v_dnew, v_dinT, v_dputS, v_sortDct, v_rgE, v_rg2, v_unS, v_catW, v_chainE, v_add, v_sub, v_lt, v_le, v_gt, v_ge, v_eqI, v_eqB, v_eqS, v_ixL, v_ixT, v_lenL, v_lenT, v_abs, v_intI, v_intB, v_min, v_max, v_chk, seqD]) rfl rfl ?_
    refine (comp_all (env := [some (.dat (.list (ivD iv))), some (.dat (.int c)), none, none]) sndP (lowP c) (ivD iv) [] (by rw [iv_len]; show 0 + _ < _; omega) fun d hd => ?_).trans (by simp)
    obtain ⟨p, _, rfl⟩ := List.mem_map.mp hd
    refine ⟨[some (.dat (.list (ivD iv))), some (.dat (.int c)), some (.dat (.int p.1)), some (.dat (.int p.2))], rfl, ?_, fun _ => ?_, rfl, rfl⟩
    · generalize ivD iv = L
      simp [v_bind, v_ok, v_none, v_pure, v_lift, v_liftN, v_con, v_get, v_gkd, v_gko, v_gkc, v_vwd, v_vws, v_ok1, v_ownD, v_dctD, v_dk1, v_setOwn, v_putM, v_op2, v_op1, v_anil, v_acons, v_vws0, v_vwsC, v_cb, v_tupD, v_lstD, v_lstW, v_listW, v_dds0, v_ddsC, v_asB, v_tb1, v_andT, v_orT, v_notT, v_andV, v_orV, v_notV, v_ofB, v_ifE, v_pl, v_toW, v_fz, v_ofWd, v_ofWo, v_nxt, v_thenS, v_exprS, v_retS, v_retN, v_ifS, v_setS, v_parS, v_setIx, v_asD, v_asI, v_mthE, v_callA, v_callB, v_forS, v_argI, v_seqI, v_slD, v_poN, v_poS, v_isiE, v_isiE2, v_isNE, v_dnew, v_dinT, v_dputS, v_sortDct, v_rgE, v_rg2, v_unS, v_catW, v_chainE, v_add, v_sub, v_lt, v_le, v_gt, v_ge, v_eqI, v_eqB, v_eqS, v_ixL, v_ixT, v_lenL, v_lenT, v_abs, v_intI, v_intB, v_min, v_max, v_chk, lowP, pD]
    · generalize ivD iv = L
      simp [v_bind, v_ok, v_none, v_pure, v_lift, v_liftN, v_con, v_get, v_gkd, v_gko, v_gkc, v_vwd, v_vws, v_ok1, v_ownD, v_dctD, v_dk1, v_setOwn, v_putM, v_op2, v_op1, v_anil, v_acons, v_vws0, v_vwsC, v_cb, v_tupD, v_lstD, v_lstW, v_listW, v_dds0, v_ddsC, v_asB, v_tb1, v_andT, v_orT, v_notT, v_andV, v_orV, v_notV, v_ofB, v_ifE, v_pl, v_toW, v_fz, v_ofWd, v_ofWo, v_nxt, v_thenS, v_exprS, v_retS, v_retN, v_ifS, v_setS, v_parS, v_setIx, v_asD, v_asI, v_mthE, v_callA, v_callB, v_forS, v_argI, v_seqI, v_slD, v_poN, v_poS, v_isiE, v_isiE2, v_isNE, v_dnew, v_dinT, v_dputS, v_sortDct, v_rgE, v_rg2, v_unS, v_catW, v_chainE, v_add, v_sub, v_lt, v_le, v_gt, v_ge, v_eqI, v_eqB, v_eqS, v_ixL, v_ixT, v_lenL, v_lenT, v_abs, v_intI, v_intB, v_min, v_max, v_chk, sndP, pD]
  refine runA_eq rfl ⟨[some (.dat (.list (ivD iv))), some (.dat (.int c)), none, none], ?_⟩
  show f_run_index [some (.dat (.list (ivD iv))), some (.dat (.int c)), none, none] = _
  unfold f_run_index
  rw [← rix_data, ← List.length_map (f := sndP) (as := (ivD iv).filter (lowP c))]
  generalize ((ivD iv).filter (lowP c)).map sndP = L at comp
  generalize ivD iv = L' at comp
  simp [v_bind, v_ok, v_none, v_pure, v_lift, v_liftN, v_con, v_get, v_gkd, v_gko, v_gkc, v_vwd, v_vws, v_ok1, v_ownD, v_dctD, v_dk1, v_setOwn, v_putM, v_op2, v_op1, v_anil, v_acons, v_vws0, v_vwsC, v_cb, v_tupD, v_lstD, v_lstW, v_listW, v_dds0, v_ddsC, v_asB, v_tb1, v_andT, v_orT, v_notT, v_andV, v_orV, v_notV, v_ofB, v_ifE, v_pl, v_toW, v_fz, v_ofWd, v_ofWo, v_nxt, v_thenS, v_exprS, v_retS, v_retN, v_ifS, v_setS, v_parS, v_setIx, v_asD, v_asI, v_mthE, v_callA, v_callB, v_forS, v_argI, v_seqI, v_slD, v_poN, v_poS, v_isiE, v_isiE2, v_isNE, v_dnew, v_dinT, v_dputS, v_sortDct, v_rgE, v_rg2, v_unS, v_catW, v_chainE, v_add, v_sub, v_lt, v_le, v_gt, v_ge, v_eqI, v_eqB, v_eqS, v_ixL, v_ixT, v_lenL, v_lenT, v_abs, v_intI, v_intB, v_min, v_max, v_chk, comp]
theorem cutL_from {α : Type} (l : List α) (k : Nat) (h : k ≤ l.length) : cutL l (some (k : Int)) none = l.drop k := by
  unfold cutL
  have e : HT.sIx l.length 0 (some (k : Int)) = k := by simp [HT.sIx]; rw [if_neg (by omega)]; omega
  have e2 : HT.sIx l.length l.length none = l.length := rfl
  rw [e, e2, List.take_of_length_le (by rw [List.length_drop]; omega)]
theorem cutL_to {α : Type} (l : List α) (k : Nat) (h : k ≤ l.length) : cutL l none (some (k : Int)) = l.take k := by
  unfold cutL
  have e : HT.sIx l.length l.length (some (k : Int)) = k := by simp [HT.sIx]; rw [if_neg (by omega)]; omega
  have e2 : HT.sIx l.length 0 none = 0 := rfl
  rw [e, e2]
  simp
def dnP : PyData → PyData
  | .tuple [.int a, .int b] => .tuple [.int (a - 1), .int (b - 1)]
  | d => d
theorem next_ok {iv : List Iv} {c : Int} (h : iv.length ≤ 1000) (hc : rix iv c < iv.length) : F_next_intervals [.list (ivD iv), .int c] = some (.dat (.list (ivD (nx iv (rix iv c))))) := by
  have ix := index_ok (c := c) h
  generalize hr : rix iv c = a at *
  have hl : lf a < iv.length := by unfold lf; omega
  have hg : rg iv a < iv.length := by unfold rg; omega
  have e3 : maxD [.int ((a : Nat) - 1 : Int), .int 0] = some (.int ((lf a : Nat) : Int)) := by
    rw [v_max]
    congr 2
    unfold lf
    split <;> omega
  have e4 : minD [.int ((a : Nat) + 1 : Int), .int ((iv.length : Int) - 1)] = some (.int ((rg iv a : Nat) : Int)) := by
    rw [v_min]
    congr 2
    unfold rg
    split <;> omega
  have gl : iv[lf a]? = some (iv.getD (lf a) (0, 0)) := by rw [List.getD_eq_getElem?_getD, List.getElem?_eq_getElem hl]; rfl
  have gr : iv[rg iv a]? = some (iv.getD (rg iv a) (0, 0)) := by rw [List.getD_eq_getElem?_getD, List.getElem?_eq_getElem hg]; rfl
  have al := iv_at gl
  have ar := iv_at gr
  have hn : nx iv a = iv.take (lf a) ++ [((iv.getD (lf a) (0, 0)).1, (iv.getD (rg iv a) (0, 0)).2 - 1)] ++ (iv.drop (rg iv a + 1)).map fun p => (p.1 - 1, p.2 - 1) := rfl
  have c1 : cutD (.list (ivD iv)) none (some ((lf a : Nat) : Int)) = some (.list (ivD (iv.take (lf a)))) := by
    show some (PyData.list (cutL (ivD iv) none (some ((lf a : Nat) : Int)))) = _
    rw [cutL_to _ _ (by rw [iv_len]; omega)]
    unfold ivD
    rw [List.map_take]
  have c2 : cutD (.list (ivD iv)) (some ((rg iv a : Nat) + 1 : Int)) none = some (.list (ivD (iv.drop (rg iv a + 1)))) := by
    show some (PyData.list (cutL (ivD iv) (some ((rg iv a + 1 : Nat) : Int)) none)) = _
    rw [cutL_from _ _ (by rw [iv_len]; omega)]
    unfold ivD
    rw [List.map_drop]
  have lD : lenD [.list (ivD iv)] = some (.int iv.length) := by rw [v_lenL, iv_len]
  have ld : (ivD (iv.drop (rg iv a + 1))).length ≤ 1000 := by rw [iv_len, List.length_drop]; omega
  have lt : (ivD (iv.take (lf a))).length ≤ 1000 := by rw [iv_len, List.length_take]; omega
  have dn : (ivD (iv.drop (rg iv a + 1))).map dnP = ivD ((iv.drop (rg iv a + 1)).map fun p => (p.1 - 1, p.2 - 1)) := by
    unfold ivD
    rw [List.map_map, List.map_map]
    rfl
  have dm : ∀ d ∈ ivD (iv.drop (rg iv a + 1)), ∃ x y : Int, d = .tuple [.int x, .int y] := fun d hd => by
    obtain ⟨p, _, rfl⟩ := List.mem_map.mp hd
    exact ⟨_, _, rfl⟩
  have fin : ivD (nx iv a) = ivD (iv.take (lf a)) ++ [.tuple [.int (iv.getD (lf a) (0, 0)).1, .int ((iv.getD (rg iv a) (0, 0)).2 - 1)]] ++ (ivD (iv.drop (rg iv a + 1))).map dnP := by
    rw [hn, dn]
    unfold ivD
    rw [List.map_append, List.map_append]
    rfl
  rw [fin]
  generalize ivD (iv.take (lf a)) = A at *
  generalize ivD (iv.drop (rg iv a + 1)) = C at *
  generalize iv.getD (lf a) (0, 0) = p at *
  generalize iv.getD (rg iv a) (0, 0) = q at *
  generalize ((lf a : Nat) : Int) = l at *
  generalize ((rg iv a : Nat) : Int) = r at *
  generalize ((a : Nat) : Int) = k at *
  generalize ivD iv = L at *
  generalize (iv.length : Int) = N at *
  clear hl hg gl gr hn
  have t0 : ∀ x y : Int, atI [PyData.int x, .int y] 0 = some (.int x) := fun _ _ => rfl
  have t1 : ∀ x y : Int, atI [PyData.int x, .int y] 1 = some (.int y) := fun _ _ => rfl
  refine runA_eq rfl ⟨[some (.dat (.list L)), some (.dat (.int c)), some (.dat (.int k)), some (.dat (.int l)), some (.dat (.int r)), some (.dat (.tuple [.int p.1, .int (q.2 - 1)])), some (.dat (.list (C.map dnP))), none, none], ?_⟩
  show f_next_intervals [some (.dat (.list L)), some (.dat (.int c)), none, none, none, none, none, none, none] = _
  unfold f_next_intervals
  rw [then_nx (e := [some (.dat (.list L)), some (.dat (.int c)), some (.dat (.int k)), none, none, none, none, none, none]) (by unfold s_next_intervals_0; simp [v_bind, v_ok, v_none, v_pure, v_lift, v_liftN, v_con, v_get, v_gkd, v_gko, v_gkc, v_vwd, v_vws, v_ok1, v_ownD, v_dctD, v_dk1, v_setOwn, v_putM, v_op2, v_op1, v_anil, v_acons, v_vws0, v_vwsC, v_cb, v_tupD, v_lstD, v_lstW, v_listW, v_dds0, v_ddsC, v_asB, v_tb1, v_andT, v_orT, v_notT, v_andV, v_orV, v_notV, v_ofB, v_ifE, v_pl, v_toW, v_fz, v_ofWd, v_ofWo, v_nxt, v_thenS, v_exprS, v_retS, v_retN, v_ifS, v_setS, v_parS, v_setIx, v_asD, v_asI, v_mthE, v_callA, v_callB, v_forS, v_argI, v_seqI, v_slD, v_poN, v_poS, v_isiE, v_isiE2, v_isNE, v_dnew, v_dinT, v_dputS, v_sortDct, v_rgE, v_rg2, v_unS, v_catW, v_chainE, v_add, v_sub, v_lt, v_le, v_gt, v_ge, v_eqI, v_eqB, v_eqS, v_ixL, v_ixT, v_lenL, v_lenT, v_abs, v_intI, v_intB, v_min, v_max, v_chk, ix])]
  rw [then_nx (e := [some (.dat (.list L)), some (.dat (.int c)), some (.dat (.int k)), some (.dat (.int l)), none, none, none, none, none]) (by unfold s_next_intervals_1; simp [v_bind, v_ok, v_none, v_pure, v_lift, v_liftN, v_con, v_get, v_gkd, v_gko, v_gkc, v_vwd, v_vws, v_ok1, v_ownD, v_dctD, v_dk1, v_setOwn, v_putM, v_op2, v_op1, v_anil, v_acons, v_vws0, v_vwsC, v_cb, v_tupD, v_lstD, v_lstW, v_listW, v_dds0, v_ddsC, v_asB, v_tb1, v_andT, v_orT, v_notT, v_andV, v_orV, v_notV, v_ofB, v_ifE, v_pl, v_toW, v_fz, v_ofWd, v_ofWo, v_nxt, v_thenS, v_exprS, v_retS, v_retN, v_ifS, v_setS, v_parS, v_setIx, v_asD, v_asI, v_mthE, v_callA, v_callB, v_forS, v_argI, v_seqI, v_slD, v_poN, v_poS, v_isiE, v_isiE2, v_isNE, v_dnew, v_dinT, v_dputS, v_sortDct, v_rgE, v_rg2, v_unS, v_catW, v_chainE, v_add, v_sub, v_lt, v_le, v_gt, v_ge, v_eqI, v_eqB, v_eqS, v_ixL, v_ixT, v_abs, v_intI, v_intB, v_chk, e3])]
  rw [then_nx (e := [some (.dat (.list L)), some (.dat (.int c)), some (.dat (.int k)), some (.dat (.int l)), some (.dat (.int r)), none, none, none, none]) (by unfold s_next_intervals_2; simp [v_bind, v_ok, v_none, v_pure, v_lift, v_liftN, v_con, v_get, v_gkd, v_gko, v_gkc, v_vwd, v_vws, v_ok1, v_ownD, v_dctD, v_dk1, v_setOwn, v_putM, v_op2, v_op1, v_anil, v_acons, v_vws0, v_vwsC, v_cb, v_tupD, v_lstD, v_lstW, v_listW, v_dds0, v_ddsC, v_asB, v_tb1, v_andT, v_orT, v_notT, v_andV, v_orV, v_notV, v_ofB, v_ifE, v_pl, v_toW, v_fz, v_ofWd, v_ofWo, v_nxt, v_thenS, v_exprS, v_retS, v_retN, v_ifS, v_setS, v_parS, v_setIx, v_asD, v_asI, v_mthE, v_callA, v_callB, v_forS, v_argI, v_seqI, v_slD, v_poN, v_poS, v_isiE, v_isiE2, v_isNE, v_dnew, v_dinT, v_dputS, v_sortDct, v_rgE, v_rg2, v_unS, v_catW, v_chainE, v_add, v_sub, v_lt, v_le, v_gt, v_ge, v_eqI, v_eqB, v_eqS, v_ixL, v_ixT, v_abs, v_intI, v_intB, v_chk, e4, lD])]
  rw [then_nx (e := [some (.dat (.list L)), some (.dat (.int c)), some (.dat (.int k)), some (.dat (.int l)), some (.dat (.int r)), some (.dat (.tuple [.int p.1, .int (q.2 - 1)])), none, none, none]) (by
    unfold s_next_intervals_3
    simp [v_bind, v_ok, v_none, v_pure, v_lift, v_liftN, v_con, v_get, v_gkd, v_gko, v_gkc, v_vwd, v_vws, v_ok1, v_ownD, v_dctD, v_dk1, v_setOwn, v_putM, v_op2, v_op1, v_anil, v_acons, v_vws0, v_vwsC, v_cb, v_tupD, v_lstD, v_lstW, v_listW, v_dds0, v_ddsC, v_asB, v_tb1, v_andT, v_orT, v_notT, v_andV, v_orV, v_notV, v_ofB, v_ifE, v_pl, v_toW, v_fz, v_ofWd, v_ofWo, v_nxt, v_thenS, v_exprS, v_retS, v_retN, v_ifS, v_setS, v_parS, v_setIx, v_asD, v_asI, v_mthE, v_callA, v_callB, v_forS, v_argI, v_seqI, v_slD, v_poN, v_poS, v_isiE, v_isiE2, v_isNE, v_dnew, v_dinT, v_dputS, v_sortDct, v_rgE, v_rg2, v_unS, v_catW, v_chainE, v_add, v_sub, v_lt, v_le, v_gt, v_ge, v_eqI, v_eqB, v_eqS, v_ixL, v_ixT, v_lenL, v_lenT, v_abs, v_intI, v_intB, v_min, v_max, v_chk, al, ar, pD, sz, t0, t1])]
  have comp : lcW (seqI (slD (get 0) (poS (op2 addD (get 4) (con (.int 1)))) poN)) (gT (gsC (gN 7) (gsC (gN 8) gsN))) yesT (tupD (acons (op2 subD (get 7) (con (.int 1))) (acons (op2 subD (get 8) (con (.int 1))) anil))) [7, 8] [some (.dat (.list L)), some (.dat (.int c)), some (.dat (.int k)), some (.dat (.int l)), some (.dat (.int r)), some (.dat (.tuple [.int p.1, .int (q.2 - 1)])), none, none, none] = some (.ok (.own (dats (C.map dnP))) [some (.dat (.list L)), some (.dat (.int c)), some (.dat (.int k)), some (.dat (.int l)), some (.dat (.int r)), some (.dat (.tuple [.int p.1, .int (q.2 - 1)])), none, none, none]) := by
    refine lc_eq (ds := C) (e := [some (.dat (.list L)), some (.dat (.int c)), some (.dat (.int k)), some (.dat (.int l)), some (.dat (.int r)), some (.dat (.tuple [.int p.1, .int (q.2 - 1)])), none, none, none]) (e2 := [some (.dat (.list L)), some (.dat (.int c)), some (.dat (.int k)), some (.dat (.int l)), some (.dat (.int r)), some (.dat (.tuple [.int p.1, .int (q.2 - 1)])), none, none, none]) (by simp [v_bind, v_ok, v_none, v_pure, v_lift, v_liftN, v_con, v_get, v_gkd, v_gko, v_gkc, v_vwd, v_vws, v_ok1, v_ownD, v_dctD, v_dk1, v_setOwn, v_putM, v_op2, v_op1, v_anil, v_acons, v_vws0, v_vwsC, v_cb, v_tupD, v_lstD, v_lstW, v_listW, v_dds0, v_ddsC, v_asB, v_tb1, v_andT, v_orT, v_notT, v_andV, v_orV, v_notV, v_ofB, v_ifE, v_pl, v_toW, v_fz, v_ofWd, v_ofWo, v_nxt, v_thenS, v_exprS, v_retS, v_retN, v_ifS, v_setS, v_parS, v_setIx, v_asD, v_asI, v_mthE, v_callA, v_callB, v_forS, v_argI, v_seqI, v_slD, v_poN, v_poS, v_isiE, v_isiE2, v_isNE, v_dnew, v_dinT, v_dputS, v_sortDct, v_rgE, v_rg2, v_unS, v_catW, v_chainE, v_add, v_sub, v_lt, v_le, v_gt, v_ge, v_eqI, v_eqB, v_eqS, v_ixL, v_ixT, v_lenL, v_lenT, v_abs, v_intI, v_intB, v_min, v_max, v_chk, c2, seqD]) rfl rfl ?_
    refine (comp_map (env := [some (.dat (.list L)), some (.dat (.int c)), some (.dat (.int k)), some (.dat (.int l)), some (.dat (.int r)), some (.dat (.tuple [.int p.1, .int (q.2 - 1)])), none, none, none]) dnP C [] (by show 0 + _ < _; omega) fun d hd => ?_).trans (by simp)
    obtain ⟨x, y, rfl⟩ := dm d hd
    exact ⟨[some (.dat (.list L)), some (.dat (.int c)), some (.dat (.int k)), some (.dat (.int l)), some (.dat (.int r)), some (.dat (.tuple [.int p.1, .int (q.2 - 1)])), none, some (.dat (.int x)), some (.dat (.int y))], rfl, rfl, by simp [v_bind, v_ok, v_none, v_pure, v_lift, v_liftN, v_con, v_get, v_gkd, v_gko, v_gkc, v_vwd, v_vws, v_ok1, v_ownD, v_dctD, v_dk1, v_setOwn, v_putM, v_op2, v_op1, v_anil, v_acons, v_vws0, v_vwsC, v_cb, v_tupD, v_lstD, v_lstW, v_listW, v_dds0, v_ddsC, v_asB, v_tb1, v_andT, v_orT, v_notT, v_andV, v_orV, v_notV, v_ofB, v_ifE, v_pl, v_toW, v_fz, v_ofWd, v_ofWo, v_nxt, v_thenS, v_exprS, v_retS, v_retN, v_ifS, v_setS, v_parS, v_setIx, v_asD, v_asI, v_mthE, v_callA, v_callB, v_forS, v_argI, v_seqI, v_slD, v_poN, v_poS, v_isiE, v_isiE2, v_isNE, v_dnew, v_dinT, v_dputS, v_sortDct, v_rgE, v_rg2, v_unS, v_catW, v_chainE, v_add, v_sub, v_lt, v_le, v_gt, v_ge, v_eqI, v_eqB, v_eqS, v_ixL, v_ixT, v_lenL, v_lenT, v_abs, v_intI, v_intB, v_min, v_max, v_chk, dnP, sz], rfl, rfl⟩
  rw [then_nx (e := [some (.dat (.list L)), some (.dat (.int c)), some (.dat (.int k)), some (.dat (.int l)), some (.dat (.int r)), some (.dat (.tuple [.int p.1, .int (q.2 - 1)])), some (.dat (.list (C.map dnP))), none, none]) (by unfold s_next_intervals_4; simp [v_bind, v_ok, v_none, v_pure, v_lift, v_liftN, v_con, v_get, v_gkd, v_gko, v_gkc, v_vwd, v_vws, v_ok1, v_ownD, v_dctD, v_dk1, v_setOwn, v_putM, v_op2, v_op1, v_anil, v_acons, v_vws0, v_vwsC, v_cb, v_tupD, v_lstD, v_lstW, v_listW, v_dds0, v_ddsC, v_asB, v_tb1, v_andT, v_orT, v_notT, v_andV, v_orV, v_notV, v_ofB, v_ifE, v_pl, v_toW, v_fz, v_ofWd, v_ofWo, v_nxt, v_thenS, v_exprS, v_retS, v_retN, v_ifS, v_setS, v_parS, v_setIx, v_asD, v_asI, v_mthE, v_callA, v_callB, v_forS, v_argI, v_seqI, v_slD, v_poN, v_poS, v_isiE, v_isiE2, v_isNE, v_dnew, v_dinT, v_dputS, v_sortDct, v_rgE, v_rg2, v_unS, v_catW, v_chainE, v_add, v_sub, v_lt, v_le, v_gt, v_ge, v_eqI, v_eqB, v_eqS, v_ixL, v_ixT, v_lenL, v_lenT, v_abs, v_intI, v_intB, v_min, v_max, v_chk, comp])]
  have k1 := v_cat A [.tuple [.int p.1, .int (q.2 - 1)]] (by show _ + 1 ≤ _; omega)
  have k2 := v_cat (A ++ [.tuple [.int p.1, .int (q.2 - 1)]]) (C.map dnP) (by rw [List.length_append, List.length_map]; show _ + 1 + _ ≤ _; omega)
  unfold s_next_intervals_5
  generalize C.map dnP = D at *
  simp only [v_bind, v_ok, v_none, v_pure, v_lift, v_liftN, v_con, v_get, v_gkd, v_gko, v_gkc, v_vwd, v_vws, v_ok1, v_ownD, v_dctD, v_dk1, v_setOwn, v_putM, v_op2, v_op1, v_anil, v_acons, v_vws0, v_vwsC, v_cb, v_tupD, v_lstD, v_lstW, v_listW, v_dds0, v_ddsC, v_asB, v_tb1, v_andT, v_orT, v_notT, v_andV, v_orV, v_notV, v_ofB, v_ifE, v_pl, v_toW, v_fz, v_ofWd, v_ofWo, v_nxt, v_thenS, v_exprS, v_retS, v_retN, v_ifS, v_setS, v_parS, v_setIx, v_asD, v_asI, v_mthE, v_callA, v_callB, v_forS, v_argI, v_seqI, v_slD, v_poN, v_poS, v_isiE, v_isiE2, v_isNE, v_dnew, v_dinT, v_dputS, v_sortDct, v_rgE, v_rg2, v_unS, v_catW, v_chainE, v_add, v_sub, v_lt, v_le, v_gt, v_ge, v_eqI, v_eqB, v_eqS, v_ixL, v_ixT, v_lenL, v_lenT, v_abs, v_intI, v_intB, v_min, v_max, v_chk, sz, c1, k1, k2]
  simp [v_bind, v_ok, v_none, v_pure, v_lift, v_liftN, v_con, v_get, v_gkd, v_gko, v_gkc, v_vwd, v_vws, v_ok1, v_ownD, v_dctD, v_dk1, v_setOwn, v_putM, v_op2, v_op1, v_anil, v_acons, v_vws0, v_vwsC, v_cb, v_tupD, v_lstD, v_lstW, v_listW, v_dds0, v_ddsC, v_asB, v_tb1, v_andT, v_orT, v_notT, v_andV, v_orV, v_notV, v_ofB, v_ifE, v_pl, v_toW, v_fz, v_ofWd, v_ofWo, v_nxt, v_thenS, v_exprS, v_retS, v_retN, v_ifS, v_setS, v_parS, v_setIx, v_asD, v_asI, v_mthE, v_callA, v_callB, v_forS, v_argI, v_seqI, v_slD, v_poN, v_poS, v_isiE, v_isiE2, v_isNE, v_dnew, v_dinT, v_dputS, v_sortDct, v_rgE, v_rg2, v_unS, v_catW, v_chainE, v_add, v_sub, v_lt, v_le, v_gt, v_ge, v_eqI, v_eqB, v_eqS, v_ixL, v_ixT, v_lenL, v_lenT, v_abs, v_intI, v_intB, v_min, v_max, v_chk, sz, c1, k1, k2]
end Ov

set_option Elab.async false
set_option linter.all false
set_option maxRecDepth 100000
set_option maxHeartbeats 4000000
namespace Ov
open PySem L2
theorem tup_of {F : M Wv} {env e : En} {C : List PyData} (h : F env = some (.ok (.own (dats C)) e)) : cb tupleD (acons (fz F) anil) env = some (.ok (.dat (.tuple C)) e) := by
  rw [v_cb, v_acons, v_fz, h, v_ok, v_ofWo, v_lift, v_ok, v_bind, v_anil, v_ok, v_pure, v_ok, v_bind, v_vwsC, v_vwd, v_ok, v_bind, v_vws0, v_ok, v_pure, v_ok, v_bind]
  show cont (lift (some (PyData.tuple C)) e) _ = _
  rw [v_lift, v_ok, v_pure]
theorem mks_vd : ∀ {S ms : List Int}, S.Pairwise (· < ·) → ms.Perm S → Vd S.length (S.map (mk ms))
  | [], ms, _, p => trivial
  | h :: S, ms, pw, p => by
    obtain ⟨lo, pw'⟩ := List.pairwise_cons.mp pw
    have hin : h ∈ ms := p.symm.subset (List.mem_cons_self ..)
    obtain ⟨l1, l2, e1, e2, _⟩ := List.exists_erase_eq hin
    subst e2
    have p' : (l1 ++ l2).Perm S := (List.perm_middle.symm.trans p).cons_inv
    have lo' : ∀ x ∈ l1 ++ l2, h < x := fun x hx => lo x (p'.subset hx)
    have em : S.map (mk (l1 ++ h :: l2)) = S.map (mk (l1 ++ l2)) := List.map_congr_left fun k hk => mk_up (lo k hk)
    have hl := p'.length_eq
    rw [List.length_append] at hl
    rw [List.map_cons, mk_low e1 lo', em, List.length_cons]
    refine ⟨by omega, by omega, ?_⟩
    rw [show ((S.length + 1 : Nat) : Int) - 1 = S.length by omega]
    exact mks_vd pw' p'
theorem mks_len (ms : List Int) : (mks ms).length = ms.length := by unfold mks; rw [List.length_map, (sortI_perm ms).length_eq]
theorem vd_row {ms : List Int} (nd : ms.Nodup) : Vd ms.length (mks ms) := by
  have := mks_vd (sortI_lt nd) (sortI_perm ms).symm
  rw [(sortI_perm ms).length_eq] at this
  exact this
/-- the runs of a row -/
def RNS (ms : List Int) : List Iv := rns (fiv ms.length) (mks ms)
theorem RNS_len (ms : List Int) : (RNS ms).length = ms.length := by unfold RNS; rw [rns_len, mks_len]
def lsD (l : List (List Iv)) : List PyData := l.map fun iv => .list (ivD iv)
theorem lists_for {d : PyData} : ∀ (cs : List Int) {iv : List Iv} {m : Int} {acc : List PyData} {w3 : Option Wv}, (cs ≠ [] → Pt 0 m iv) → m = cs.length → Vd m cs → iv.length + cs.length ≤ 500 → acc.length + cs.length ≤ 500 →
    ∃ u2 u3, forM (gN 3) b_run_lists_2 (cs.map .int) [some (.dat d), some (.own (dats acc)), some (.dat (.list (ivD iv))), w3] = some (.ok .nx [some (.dat d), some (.own (dats (acc ++ lsD (ivs iv cs)))), u2, u3])
  | [], iv, m, acc, w3, _, _, _, _, _ => ⟨_, _, by rw [show lsD (ivs iv []) = [] from rfl, List.append_nil]; exact for_nil⟩
  | c :: cs, iv, m, acc, w3, hp, hm, v, hl, ha => by
    have P := hp (by simp)
    obtain ⟨q, e1, _⟩ := rix_at P v.1 v.2.1
    have nk := next_ok (iv := iv) (c := c) (by rw [List.length_cons] at hl; omega) (lt_of_get e1)
    have ap := v_app acc (.list (ivD iv)) (by rw [List.length_cons] at ha; omega)
    rw [List.length_cons] at hm hl ha
    obtain ⟨u2, u3, e⟩ := lists_for cs (iv := nx iv (rix iv c)) (m := m - 1) (acc := acc ++ [.list (ivD iv)]) (w3 := some (.dat (.int c))) (fun z => nx_pt P (by have : cs.length ≠ 0 := fun y => z (List.length_eq_zero_iff.mp y); omega) (lt_of_get e1)) (by omega) v.2.2 (by have := nx_len (iv := iv) (a := rix iv c); omega) (by rw [List.length_append]; show acc.length + 1 + _ ≤ _; omega)
    refine ⟨u2, u3, (for_go (e := [some (.dat d), some (.own (dats acc)), some (.dat (.list (ivD iv))), some (.dat (.int c))]) rfl ?_).trans (e.trans (by rw [List.append_assoc]; rfl))⟩
    unfold b_run_lists_2
    generalize ivD iv = L at *
    generalize ivD (nx iv (rix iv c)) = L' at *
    simp [v_bind, v_ok, v_none, v_pure, v_lift, v_liftN, v_con, v_get, v_gkd, v_gko, v_gkc, v_vwd, v_vws, v_ok1, v_ownD, v_dctD, v_dk1, v_setOwn, v_putM, v_op2, v_op1, v_anil, v_acons, v_vws0, v_vwsC, v_cb, v_tupD, v_lstD, v_lstW, v_listW, v_dds0, v_ddsC, v_asB, v_tb1, v_andT, v_orT, v_notT, v_andV, v_orV, v_notV, v_ofB, v_ifE, v_pl, v_toW, v_fz, v_ofWd, v_ofWo, v_nxt, v_thenS, v_exprS, v_retS, v_retN, v_ifS, v_setS, v_parS, v_setIx, v_asD, v_asI, v_mthE, v_callA, v_callB, v_forS, v_argI, v_seqI, v_slD, v_poN, v_poS, v_isiE, v_isiE2, v_isNE, v_dnew, v_dinT, v_dputS, v_sortDct, v_rgE, v_rg2, v_unS, v_catW, v_chainE, v_add, v_sub, v_lt, v_le, v_gt, v_ge, v_eqI, v_eqB, v_eqS, v_ixL, v_ixT, v_lenL, v_lenT, v_abs, v_intI, v_intB, v_min, v_max, v_chk, ap, nk]
theorem len_sq {d : PyData} {ms : List Int} (h : isSq d ms) : lenD [d] = some (.int ms.length) := by rcases h with rfl | rfl <;> simp [lenD, seqD]
theorem lists_ok {d : PyData} {ms : List Int} (hd : isSq d ms) (hl : ms.length ≤ 100) (nd : ms.Nodup) : F_run_lists [d] = some (.own (dats (lsD (ivs (fiv ms.length) (mks ms))))) := by
  have ln := len_sq hd
  have fo := first_ok (n := ms.length) (by omega)
  have co := codes_ok hd (by omega)
  have fl : (fiv ms.length).length = ms.length := by unfold fiv; simp
  obtain ⟨u2, u3, e⟩ := lists_for (d := d) (mks ms) (iv := fiv ms.length) (m := ms.length) (acc := []) (w3 := none) (fun _ => fiv_pt _) (by rw [mks_len]) (vd_row nd) (by rw [mks_len, fl]; omega) (by rw [mks_len]; show 0 + _ ≤ _; omega)
  rw [List.nil_append] at e
  generalize lsD (ivs (fiv ms.length) (mks ms)) = R at *
  generalize (mks ms).map PyData.int = C at *
  generalize ivD (fiv ms.length) = I at *
  generalize (ms.length : Int) = N at *
  refine runA_eq rfl ⟨[some (.dat d), none, u2, u3], ?_⟩
  show f_run_lists [some (.dat d), none, none, none] = _
  unfold f_run_lists
  rw [then_nx (e := [some (.dat d), some (.own (dats [])), none, none]) (by unfold s_run_lists_0; simp [v_bind, v_ok, v_none, v_pure, v_lift, v_liftN, v_con, v_get, v_gkd, v_gko, v_gkc, v_vwd, v_vws, v_ok1, v_ownD, v_dctD, v_dk1, v_setOwn, v_putM, v_op2, v_op1, v_anil, v_acons, v_vws0, v_vwsC, v_cb, v_tupD, v_lstD, v_lstW, v_listW, v_dds0, v_ddsC, v_asB, v_tb1, v_andT, v_orT, v_notT, v_andV, v_orV, v_notV, v_ofB, v_ifE, v_pl, v_toW, v_fz, v_ofWd, v_ofWo, v_nxt, v_thenS, v_exprS, v_retS, v_retN, v_ifS, v_setS, v_parS, v_setIx, v_asD, v_asI, v_mthE, v_callA, v_callB, v_forS, v_argI, v_seqI, v_slD, v_poN, v_poS, v_isiE, v_isiE2, v_isNE, v_dnew, v_dinT, v_dputS, v_sortDct, v_rgE, v_rg2, v_unS, v_catW, v_chainE, v_add, v_sub, v_lt, v_le, v_gt, v_ge, v_eqI, v_eqB, v_eqS, v_ixL, v_ixT, v_lenL, v_lenT, v_abs, v_intI, v_intB, v_min, v_max, v_chk, sz])]
  rw [then_nx (e := [some (.dat d), some (.own (dats [])), some (.dat (.list I)), none]) (by unfold s_run_lists_1; simp [v_bind, v_ok, v_none, v_pure, v_lift, v_liftN, v_con, v_get, v_gkd, v_gko, v_gkc, v_vwd, v_vws, v_ok1, v_ownD, v_dctD, v_dk1, v_setOwn, v_putM, v_op2, v_op1, v_anil, v_acons, v_vws0, v_vwsC, v_cb, v_tupD, v_lstD, v_lstW, v_listW, v_dds0, v_ddsC, v_asB, v_tb1, v_andT, v_orT, v_notT, v_andV, v_orV, v_notV, v_ofB, v_ifE, v_pl, v_toW, v_fz, v_ofWd, v_ofWo, v_nxt, v_thenS, v_exprS, v_retS, v_retN, v_ifS, v_setS, v_parS, v_setIx, v_asD, v_asI, v_mthE, v_callA, v_callB, v_forS, v_argI, v_seqI, v_slD, v_poN, v_poS, v_isiE, v_isiE2, v_isNE, v_dnew, v_dinT, v_dputS, v_sortDct, v_rgE, v_rg2, v_unS, v_catW, v_chainE, v_add, v_sub, v_lt, v_le, v_gt, v_ge, v_eqI, v_eqB, v_eqS, v_ixL, v_ixT, v_abs, v_intI, v_intB, v_min, v_max, v_chk, ln, fo])]
  rw [then_nx (e := [some (.dat d), some (.own (dats R)), u2, u3]) (by
    unfold s_run_lists_2
    simp only [v_bind, v_ok, v_none, v_pure, v_lift, v_liftN, v_con, v_get, v_gkd, v_gko, v_gkc, v_vwd, v_vws, v_ok1, v_ownD, v_dctD, v_dk1, v_setOwn, v_putM, v_op2, v_op1, v_anil, v_acons, v_vws0, v_vwsC, v_cb, v_tupD, v_lstD, v_lstW, v_listW, v_dds0, v_ddsC, v_asB, v_tb1, v_andT, v_orT, v_notT, v_andV, v_orV, v_notV, v_ofB, v_ifE, v_pl, v_toW, v_fz, v_ofWd, v_ofWo, v_nxt, v_thenS, v_exprS, v_retS, v_retN, v_ifS, v_setS, v_parS, v_setIx, v_asD, v_asI, v_mthE, v_callA, v_callB, v_forS, v_argI, v_seqI, v_slD, v_poN, v_poS, v_isiE, v_isiE2, v_isNE, v_dnew, v_dinT, v_dputS, v_sortDct, v_rgE, v_rg2, v_unS, v_catW, v_chainE, v_add, v_sub, v_lt, v_le, v_gt, v_ge, v_eqI, v_eqB, v_eqS, v_ixL, v_ixT, v_lenL, v_lenT, v_abs, v_intI, v_intB, v_min, v_max, v_chk, List.getElem?_cons_zero, Option.map_some, co, seqD]
    exact e)]
  unfold s_run_lists_3
  rw [v_moveS 1 (dats R) rfl]
  rfl
theorem runs_comp {d : PyData} : ∀ (cs : List Int) {iv : List Iv} {m : Int} {acc : List PyData}, (cs ≠ [] → Pt 0 m iv) → m = cs.length → Vd m cs → iv.length + cs.length ≤ 500 → acc.length + cs.length ≤ 500 →
    compM (gT (gsC (gN 1) (gsC (gN 2) gsN))) yesT (op2 ixD (get 1) (fz (callA F_run_index (acons (get 1) (acons (get 2) anil))))) [1, 2] (pairUp (lsD (ivs iv cs)) (cs.map .int)) acc [some (.dat d), none, none] = some (.ok (acc ++ ivD (rns iv cs)) [some (.dat d), none, none])
  | [], iv, m, acc, _, _, _, _, _ => by
    show some _ = some _
    rw [show ivD (rns iv []) = [] from rfl, List.append_nil]
  | c :: cs, iv, m, acc, hp, hm, v, hl, ha => by
    have P := hp (by simp)
    obtain ⟨q, e1, _⟩ := rix_at P v.1 v.2.1
    rw [List.length_cons] at hm hl ha
    have ix := index_ok (iv := iv) (c := c) (by omega)
    have ia := iv_at e1
    have e := runs_comp (d := d) cs (iv := nx iv (rix iv c)) (m := m - 1) (acc := acc ++ [pD q]) (fun z => nx_pt P (by have : cs.length ≠ 0 := fun y => z (List.length_eq_zero_iff.mp y); omega) (lt_of_get e1)) (by omega) v.2.2 (by have := nx_len (iv := iv) (a := rix iv c); omega) (by rw [List.length_append]; show acc.length + 1 + _ ≤ _; omega)
    rw [rns_cons (cs := cs) e1]
    show compM _ _ _ _ (.tuple [.list (ivD iv), .int c] :: pairUp (lsD (ivs (nx iv (rix iv c)) cs)) (cs.map .int)) acc _ = _
    rw [comp_yes (e := [some (.dat d), some (.dat (.list (ivD iv))), some (.dat (.int c))]) (e2 := [some (.dat d), some (.dat (.list (ivD iv))), some (.dat (.int c))]) (e3 := [some (.dat d), some (.dat (.list (ivD iv))), some (.dat (.int c))]) (y := pD q) rfl rfl (by
      generalize ivD iv = L at *
      simp [v_bind, v_ok, v_none, v_pure, v_lift, v_liftN, v_con, v_get, v_gkd, v_gko, v_gkc, v_vwd, v_vws, v_ok1, v_ownD, v_dctD, v_dk1, v_setOwn, v_putM, v_op2, v_op1, v_anil, v_acons, v_vws0, v_vwsC, v_cb, v_tupD, v_lstD, v_lstW, v_listW, v_dds0, v_ddsC, v_asB, v_tb1, v_andT, v_orT, v_notT, v_andV, v_orV, v_notV, v_ofB, v_ifE, v_pl, v_toW, v_fz, v_ofWd, v_ofWo, v_nxt, v_thenS, v_exprS, v_retS, v_retN, v_ifS, v_setS, v_parS, v_setIx, v_asD, v_asI, v_mthE, v_callA, v_callB, v_forS, v_argI, v_seqI, v_slD, v_poN, v_poS, v_isiE, v_isiE2, v_isNE, v_dnew, v_dinT, v_dputS, v_sortDct, v_rgE, v_rg2, v_unS, v_catW, v_chainE, v_add, v_sub, v_lt, v_le, v_gt, v_ge, v_eqI, v_eqB, v_eqS, v_ixL, v_ixT, v_lenL, v_lenT, v_abs, v_intI, v_intB, v_min, v_max, v_chk, ix, ia]) rfl (by omega)]
    refine e.trans ?_
    rw [List.append_assoc]
    rfl
theorem runs_ok {d : PyData} {ms : List Int} (hd : isSq d ms) (hl : ms.length ≤ 100) (nd : ms.Nodup) : F_runs [d] = some (.dat (.tuple (ivD (RNS ms)))) := by
  have co := codes_ok hd (by omega)
  have ls := lists_ok hd hl nd
  have fl : (fiv ms.length).length = ms.length := by unfold fiv; simp
  have e := runs_comp (d := d) (mks ms) (iv := fiv ms.length) (m := ms.length) (acc := []) (fun _ => fiv_pt _) (by rw [mks_len]) (vd_row nd) (by rw [mks_len, fl]; omega) (by rw [mks_len]; show 0 + _ ≤ _; omega)
  rw [List.nil_append, show rns (fiv ms.length) (mks ms) = RNS ms from rfl] at e
  have comp : lcW (argI zipM (acons (fz (callA F_run_lists (acons (get 0) anil))) (acons (fz (callA F_codes (acons (get 0) anil))) anil))) (gT (gsC (gN 1) (gsC (gN 2) gsN))) yesT (op2 ixD (get 1) (fz (callA F_run_index (acons (get 1) (acons (get 2) anil))))) [1, 2] [some (.dat d), none, none] = some (.ok (.own (dats (ivD (RNS ms)))) [some (.dat d), none, none]) := by
    refine lc_eq (e := [some (.dat d), none, none]) (e2 := [some (.dat d), none, none]) ?_ rfl rfl e
    generalize lsD (ivs (fiv ms.length) (mks ms)) = A at *
    generalize (mks ms).map PyData.int = C at *
    have zz : zipM [.list A, .tuple C] = some (pairUp A C) := rfl
    simp [v_bind, v_ok, v_none, v_pure, v_lift, v_liftN, v_con, v_get, v_gkd, v_gko, v_gkc, v_vwd, v_vws, v_ok1, v_ownD, v_dctD, v_dk1, v_setOwn, v_putM, v_op2, v_op1, v_anil, v_acons, v_vws0, v_vwsC, v_cb, v_tupD, v_lstD, v_lstW, v_listW, v_dds0, v_ddsC, v_asB, v_tb1, v_andT, v_orT, v_notT, v_andV, v_orV, v_notV, v_ofB, v_ifE, v_pl, v_toW, v_fz, v_ofWd, v_ofWo, v_nxt, v_thenS, v_exprS, v_retS, v_retN, v_ifS, v_setS, v_parS, v_setIx, v_asD, v_asI, v_mthE, v_callA, v_callB, v_forS, v_argI, v_seqI, v_slD, v_poN, v_poS, v_isiE, v_isiE2, v_isNE, v_dnew, v_dinT, v_dputS, v_sortDct, v_rgE, v_rg2, v_unS, v_catW, v_chainE, v_add, v_sub, v_lt, v_le, v_gt, v_ge, v_eqI, v_eqB, v_eqS, v_ixL, v_ixT, v_lenL, v_lenT, v_abs, v_intI, v_intB, v_min, v_max, v_chk, co, ls, zz]
  refine runA_eq rfl ⟨[some (.dat d), none, none], ?_⟩
  show f_runs [some (.dat d), none, none] = _
  unfold f_runs
  generalize ivD (RNS ms) = R at *
  have t := tup_of comp
  generalize cb tupleD (acons (fz (lcW (argI zipM (acons (fz (callA F_run_lists (acons (get 0) anil))) (acons (fz (callA F_codes (acons (get 0) anil))) anil))) (gT (gsC (gN 1) (gsC (gN 2) gsN))) yesT (op2 ixD (get 1) (fz (callA F_run_index (acons (get 1) (acons (get 2) anil))))) [1, 2])) anil) = F at t ⊢
  simp [v_bind, v_ok, v_none, v_pure, v_lift, v_liftN, v_con, v_get, v_gkd, v_gko, v_gkc, v_vwd, v_vws, v_ok1, v_ownD, v_dctD, v_dk1, v_setOwn, v_putM, v_op2, v_op1, v_anil, v_acons, v_vws0, v_vwsC, v_cb, v_tupD, v_lstD, v_lstW, v_listW, v_dds0, v_ddsC, v_asB, v_tb1, v_andT, v_orT, v_notT, v_andV, v_orV, v_notV, v_ofB, v_ifE, v_pl, v_toW, v_fz, v_ofWd, v_ofWo, v_nxt, v_thenS, v_exprS, v_retS, v_retN, v_ifS, v_setS, v_parS, v_setIx, v_asD, v_asI, v_mthE, v_callA, v_callB, v_forS, v_argI, v_seqI, v_slD, v_poN, v_poS, v_isiE, v_isiE2, v_isNE, v_dnew, v_dinT, v_dputS, v_sortDct, v_rgE, v_rg2, v_unS, v_catW, v_chainE, v_add, v_sub, v_lt, v_le, v_gt, v_ge, v_eqI, v_eqB, v_eqS, v_ixL, v_ixT, v_lenL, v_lenT, v_abs, v_intI, v_intB, v_min, v_max, v_chk, t]
/-! the bar -/
theorem shp_pD (p : Iv) : shp (pD p) = true := shp_tup [p.1, p.2]
theorem eqv_pD (p q : Iv) : PyData.eqv (pD p) (pD q) = decide (p = q) := by
  have h := eqv_ints [p.1, p.2] [q.1, q.2]
  have e : PyData.eqv (pD p) (pD q) = PyData.eqv (dInts [p.1, p.2]) (dInts [q.1, q.2]) := by simp [pD, dInts, PyData.eqv]
  rw [e, h]
  obtain ⟨a, b⟩ := p
  obtain ⟨c, d⟩ := q
  rw [Bool.eq_iff_iff]
  simp
theorem ne_pD (p q : Iv) : eqvD true (pD p) (pD q) = some (.bool (!decide (p = q))) := by
  unfold eqvD
  rw [shp_pD, shp_pD, eqv_pD, Bool.true_xor]
  rfl
theorem runA_nx {np n : Nat} {fb : M Fl} {ds : List PyData} {e : En} (hl : ds.length = np) (h : fb (env0 ds (n - ds.length)) = some (.ok .nx e)) : runA np n fb ds = some (.dat .none) := by
  unfold runA
  rw [if_pos hl, h]
theorem ne_self (l : List Int) : eqvD true (.list (l.map .int)) (.list (l.map .int)) = some (.bool false) := by
  unfold eqvD
  rw [shp_list]
  have : PyData.eqv (.list (l.map .int)) (.list (l.map .int)) = true := by
    have := eqv_ints l l
    rw [decide_eq_true rfl] at this
    exact this
  rw [this]
  rfl
theorem check_ok {d e : PyData} {ms ns : List Int} (hd : isSq d ms) (he : isSq e ns) (p : ns.Perm ms) : F_check_same_people [d, e] = some (.dat .none) := by
  have s1 := sort_ok hd
  have s2 := sort_ok he
  rw [sort_perm p] at s2
  have ne := ne_self (sortI ms)
  generalize (sortI ms).map PyData.int = L at *
  refine runA_nx (e := [some (.dat d), some (.dat e)]) rfl ?_
  show f_check_same_people [some (.dat d), some (.dat e)] = _
  unfold f_check_same_people
  simp [v_bind, v_ok, v_none, v_pure, v_lift, v_liftN, v_con, v_get, v_gkd, v_gko, v_gkc, v_vwd, v_vws, v_ok1, v_ownD, v_dctD, v_dk1, v_setOwn, v_putM, v_op2, v_op1, v_anil, v_acons, v_vws0, v_vwsC, v_cb, v_tupD, v_lstD, v_lstW, v_listW, v_dds0, v_ddsC, v_asB, v_tb1, v_andT, v_orT, v_notT, v_andV, v_orV, v_notV, v_ofB, v_ifE, v_pl, v_toW, v_fz, v_ofWd, v_ofWo, v_nxt, v_thenS, v_exprS, v_retS, v_retN, v_ifS, v_setS, v_parS, v_setIx, v_asD, v_asI, v_mthE, v_callA, v_callB, v_forS, v_argI, v_seqI, v_slD, v_poN, v_poS, v_isiE, v_isiE2, v_isNE, v_dnew, v_dinT, v_dputS, v_sortDct, v_rgE, v_rg2, v_unS, v_catW, v_chainE, v_add, v_sub, v_lt, v_le, v_gt, v_ge, v_eqI, v_eqB, v_eqS, v_ixL, v_ixT, v_lenL, v_lenT, v_abs, v_intI, v_intB, v_min, v_max, v_chk, s1, s2, ne]
theorem bar_same {d e : PyData} : ∀ {S : List Int} {A : List Iv} {w2 w3 w4 : Option Wv}, S.length = A.length → ∃ u2 u3 u4, forM (gT (gsC (gN 2) (gsC (gN 3) (gsC (gN 4) gsN)))) b_bar_1 (tripUp (S.map .int) (ivD A) (ivD A)) [some (.dat d), some (.dat e), w2, w3, w4] = some (.ok .nx [some (.dat d), some (.dat e), u2, u3, u4])
  | [], A, w2, w3, w4, _ => ⟨w2, w3, w4, for_nil⟩
  | h :: S, [], _, _, _, hl => by cases hl
  | h :: S, p :: A, w2, w3, w4, hl => by
    obtain ⟨u2, u3, u4, r⟩ := bar_same (d := d) (e := e) (S := S) (A := A) (w2 := some (.dat (.int h))) (w3 := some (.dat (pD p))) (w4 := some (.dat (pD p))) (by simpa using hl)
    refine ⟨u2, u3, u4, (for_go (e := [some (.dat d), some (.dat e), some (.dat (.int h)), some (.dat (pD p)), some (.dat (pD p))]) rfl ?_).trans r⟩
    have n := ne_pD p p
    rw [decide_eq_true rfl] at n
    unfold b_bar_1
    generalize pD p = x at *
    simp [v_bind, v_ok, v_none, v_pure, v_lift, v_liftN, v_con, v_get, v_gkd, v_gko, v_gkc, v_vwd, v_vws, v_ok1, v_ownD, v_dctD, v_dk1, v_setOwn, v_putM, v_op2, v_op1, v_anil, v_acons, v_vws0, v_vwsC, v_cb, v_tupD, v_lstD, v_lstW, v_listW, v_dds0, v_ddsC, v_asB, v_tb1, v_andT, v_orT, v_notT, v_andV, v_orV, v_notV, v_ofB, v_ifE, v_pl, v_toW, v_fz, v_ofWd, v_ofWo, v_nxt, v_thenS, v_exprS, v_retS, v_retN, v_ifS, v_setS, v_parS, v_setIx, v_asD, v_asI, v_mthE, v_callA, v_callB, v_forS, v_argI, v_seqI, v_slD, v_poN, v_poS, v_isiE, v_isiE2, v_isNE, v_dnew, v_dinT, v_dputS, v_sortDct, v_rgE, v_rg2, v_unS, v_catW, v_chainE, v_add, v_sub, v_lt, v_le, v_gt, v_ge, v_eqI, v_eqB, v_eqS, v_ixL, v_ixT, v_lenL, v_lenT, v_abs, v_intI, v_intB, v_min, v_max, v_chk, n]
theorem bar_diff {d e : PyData} : ∀ {k : Nat} {S : List Int} {A B : List Iv} {h : Int} {w2 w3 w4 : Option Wv}, S.length = A.length → B.length = A.length → A.take k = B.take k → A[k]? ≠ B[k]? → S[k]? = some h →
    ∃ u2 u3 u4, forM (gT (gsC (gN 2) (gsC (gN 3) (gsC (gN 4) gsN)))) b_bar_1 (tripUp (S.map .int) (ivD A) (ivD B)) [some (.dat d), some (.dat e), w2, w3, w4] = some (.ok (.rt (.dat (.int h))) [some (.dat d), some (.dat e), u2, u3, u4])
  | k, [], A, B, h, _, _, _, _, _, _, _, hS => by simp at hS
  | k, x :: S, [], B, h, _, _, _, hl, _, _, _, _ => by cases hl
  | k, x :: S, p :: A, [], h, _, _, _, _, hl, _, _, _ => by cases hl
  | 0, x :: S, p :: A, q :: B, h, w2, w3, w4, hl, hl2, ht, hne, hS => by
    have : x = h := by simpa using hS
    subst this
    have ne : ¬ p = q := fun z => hne (by rw [z]; rfl)
    refine ⟨_, _, _, for_rt (e := [some (.dat d), some (.dat e), some (.dat (.int x)), some (.dat (pD p)), some (.dat (pD q))]) (e2 := [some (.dat d), some (.dat e), some (.dat (.int x)), some (.dat (pD p)), some (.dat (pD q))]) rfl ?_⟩
    have n := ne_pD p q
    rw [decide_eq_false ne] at n
    unfold b_bar_1
    generalize pD p = x at *
    generalize pD q = y at *
    simp [v_bind, v_ok, v_none, v_pure, v_lift, v_liftN, v_con, v_get, v_gkd, v_gko, v_gkc, v_vwd, v_vws, v_ok1, v_ownD, v_dctD, v_dk1, v_setOwn, v_putM, v_op2, v_op1, v_anil, v_acons, v_vws0, v_vwsC, v_cb, v_tupD, v_lstD, v_lstW, v_listW, v_dds0, v_ddsC, v_asB, v_tb1, v_andT, v_orT, v_notT, v_andV, v_orV, v_notV, v_ofB, v_ifE, v_pl, v_toW, v_fz, v_ofWd, v_ofWo, v_nxt, v_thenS, v_exprS, v_retS, v_retN, v_ifS, v_setS, v_parS, v_setIx, v_asD, v_asI, v_mthE, v_callA, v_callB, v_forS, v_argI, v_seqI, v_slD, v_poN, v_poS, v_isiE, v_isiE2, v_isNE, v_dnew, v_dinT, v_dputS, v_sortDct, v_rgE, v_rg2, v_unS, v_catW, v_chainE, v_add, v_sub, v_lt, v_le, v_gt, v_ge, v_eqI, v_eqB, v_eqS, v_ixL, v_ixT, v_lenL, v_lenT, v_abs, v_intI, v_intB, v_min, v_max, v_chk, n]
  | k + 1, x :: S, p :: A, q :: B, h, w2, w3, w4, hl, hl2, ht, hne, hS => by
    have ht : p :: A.take k = q :: B.take k := ht
    injection ht with e1 e2
    subst e1
    obtain ⟨u2, u3, u4, r⟩ := bar_diff (d := d) (e := e) (k := k) (S := S) (A := A) (B := B) (h := h) (w2 := some (.dat (.int x))) (w3 := some (.dat (pD p))) (w4 := some (.dat (pD p))) (by simpa using hl) (by simpa using hl2) e2 (by simpa using hne) (by simpa using hS)
    refine ⟨u2, u3, u4, (for_go (e := [some (.dat d), some (.dat e), some (.dat (.int x)), some (.dat (pD p)), some (.dat (pD p))]) rfl ?_).trans r⟩
    have n := ne_pD p p
    rw [decide_eq_true rfl] at n
    unfold b_bar_1
    generalize pD p = x at *
    simp [v_bind, v_ok, v_none, v_pure, v_lift, v_liftN, v_con, v_get, v_gkd, v_gko, v_gkc, v_vwd, v_vws, v_ok1, v_ownD, v_dctD, v_dk1, v_setOwn, v_putM, v_op2, v_op1, v_anil, v_acons, v_vws0, v_vwsC, v_cb, v_tupD, v_lstD, v_lstW, v_listW, v_dds0, v_ddsC, v_asB, v_tb1, v_andT, v_orT, v_notT, v_andV, v_orV, v_notV, v_ofB, v_ifE, v_pl, v_toW, v_fz, v_ofWd, v_ofWo, v_nxt, v_thenS, v_exprS, v_retS, v_retN, v_ifS, v_setS, v_parS, v_setIx, v_asD, v_asI, v_mthE, v_callA, v_callB, v_forS, v_argI, v_seqI, v_slD, v_poN, v_poS, v_isiE, v_isiE2, v_isNE, v_dnew, v_dinT, v_dputS, v_sortDct, v_rgE, v_rg2, v_unS, v_catW, v_chainE, v_add, v_sub, v_lt, v_le, v_gt, v_ge, v_eqI, v_eqB, v_eqS, v_ixL, v_ixT, v_lenL, v_lenT, v_abs, v_intI, v_intB, v_min, v_max, v_chk, n]
theorem bar_go {d e : PyData} {ms ns : List Int} (hd : isSq d ms) (he : isSq e ns) (p : ns.Perm ms) (hl : ms.length ≤ 100) (nd : ms.Nodup) : s_bar_0 [some (.dat d), some (.dat e), none, none, none] = some (.ok .nx [some (.dat d), some (.dat e), none, none, none]) ∧
    s_bar_1 [some (.dat d), some (.dat e), none, none, none] = forM (gT (gsC (gN 2) (gsC (gN 3) (gsC (gN 4) gsN)))) b_bar_1 (tripUp ((sortI ms).map .int) (ivD (RNS ms)) (ivD (RNS ns))) [some (.dat d), some (.dat e), none, none, none] := by
  have ck := check_ok hd he p
  have so := sort_ok hd
  have r1 := runs_ok hd hl nd
  have r2 := runs_ok he (by rw [p.length_eq]; exact hl) (p.nodup_iff.mpr nd)
  generalize (sortI ms).map PyData.int = S at *
  generalize ivD (RNS ms) = A at *
  generalize ivD (RNS ns) = B at *
  have zz : zip3M [.list S, .tuple A, .tuple B] = some (tripUp S A B) := rfl
  constructor
  · unfold s_bar_0
    simp [v_bind, v_ok, v_none, v_pure, v_lift, v_liftN, v_con, v_get, v_gkd, v_gko, v_gkc, v_vwd, v_vws, v_ok1, v_ownD, v_dctD, v_dk1, v_setOwn, v_putM, v_op2, v_op1, v_anil, v_acons, v_vws0, v_vwsC, v_cb, v_tupD, v_lstD, v_lstW, v_listW, v_dds0, v_ddsC, v_asB, v_tb1, v_andT, v_orT, v_notT, v_andV, v_orV, v_notV, v_ofB, v_ifE, v_pl, v_toW, v_fz, v_ofWd, v_ofWo, v_nxt, v_thenS, v_exprS, v_retS, v_retN, v_ifS, v_setS, v_parS, v_setIx, v_asD, v_asI, v_mthE, v_callA, v_callB, v_forS, v_argI, v_seqI, v_slD, v_poN, v_poS, v_isiE, v_isiE2, v_isNE, v_dnew, v_dinT, v_dputS, v_sortDct, v_rgE, v_rg2, v_unS, v_catW, v_chainE, v_add, v_sub, v_lt, v_le, v_gt, v_ge, v_eqI, v_eqB, v_eqS, v_ixL, v_ixT, v_lenL, v_lenT, v_abs, v_intI, v_intB, v_min, v_max, v_chk, ck]
  · unfold s_bar_1
    simp only [v_bind, v_ok, v_none, v_pure, v_lift, v_liftN, v_con, v_get, v_gkd, v_gko, v_gkc, v_vwd, v_vws, v_ok1, v_ownD, v_dctD, v_dk1, v_setOwn, v_putM, v_op2, v_op1, v_anil, v_acons, v_vws0, v_vwsC, v_cb, v_tupD, v_lstD, v_lstW, v_listW, v_dds0, v_ddsC, v_asB, v_tb1, v_andT, v_orT, v_notT, v_andV, v_orV, v_notV, v_ofB, v_ifE, v_pl, v_toW, v_fz, v_ofWd, v_ofWo, v_nxt, v_thenS, v_exprS, v_retS, v_retN, v_ifS, v_setS, v_parS, v_setIx, v_asD, v_asI, v_mthE, v_callA, v_callB, v_forS, v_argI, v_seqI, v_slD, v_poN, v_poS, v_isiE, v_isiE2, v_isNE, v_dnew, v_dinT, v_dputS, v_sortDct, v_rgE, v_rg2, v_unS, v_catW, v_chainE, v_add, v_sub, v_lt, v_le, v_gt, v_ge, v_eqI, v_eqB, v_eqS, v_ixL, v_ixT, v_lenL, v_lenT, v_abs, v_intI, v_intB, v_min, v_max, v_chk, List.getElem?_cons_zero, List.getElem?_cons_succ, Option.map_some, so, r1, r2, zz]
theorem bar_none {d e : PyData} {ms ns : List Int} (hd : isSq d ms) (he : isSq e ns) (p : ns.Perm ms) (hl : ms.length ≤ 100) (nd : ms.Nodup) (hr : RNS ns = RNS ms) : F_bar [d, e] = some (.dat .none) := by
  obtain ⟨g1, g2⟩ := bar_go hd he p hl nd
  rw [hr] at g2
  obtain ⟨u2, u3, u4, r⟩ := bar_same (d := d) (e := e) (S := sortI ms) (A := RNS ms) (w2 := none) (w3 := none) (w4 := none) (by rw [RNS_len, (sortI_perm ms).length_eq])
  rw [r] at g2
  refine runA_eq rfl ⟨[some (.dat d), some (.dat e), u2, u3, u4], ?_⟩
  show f_bar [some (.dat d), some (.dat e), none, none, none] = _
  unfold f_bar
  rw [then_nx g1, then_nx g2]
  unfold s_bar_2
  simp [v_bind, v_ok, v_none, v_pure, v_lift, v_liftN, v_con, v_get, v_gkd, v_gko, v_gkc, v_vwd, v_vws, v_ok1, v_ownD, v_dctD, v_dk1, v_setOwn, v_putM, v_op2, v_op1, v_anil, v_acons, v_vws0, v_vwsC, v_cb, v_tupD, v_lstD, v_lstW, v_listW, v_dds0, v_ddsC, v_asB, v_tb1, v_andT, v_orT, v_notT, v_andV, v_orV, v_notV, v_ofB, v_ifE, v_pl, v_toW, v_fz, v_ofWd, v_ofWo, v_nxt, v_thenS, v_exprS, v_retS, v_retN, v_ifS, v_setS, v_parS, v_setIx, v_asD, v_asI, v_mthE, v_callA, v_callB, v_forS, v_argI, v_seqI, v_slD, v_poN, v_poS, v_isiE, v_isiE2, v_isNE, v_dnew, v_dinT, v_dputS, v_sortDct, v_rgE, v_rg2, v_unS, v_catW, v_chainE, v_add, v_sub, v_lt, v_le, v_gt, v_ge, v_eqI, v_eqB, v_eqS, v_ixL, v_ixT, v_lenL, v_lenT, v_abs, v_intI, v_intB, v_min, v_max, v_chk]
theorem bar_some {d e : PyData} {ms ns : List Int} (hd : isSq d ms) (he : isSq e ns) (p : ns.Perm ms) (hl : ms.length ≤ 100) (nd : ms.Nodup) {k : Nat} {h : Int} (ht : (RNS ms).take k = (RNS ns).take k) (hne : (RNS ms)[k]? ≠ (RNS ns)[k]?) (hS : (sortI ms)[k]? = some h) : F_bar [d, e] = some (.dat (.int h)) := by
  obtain ⟨g1, g2⟩ := bar_go hd he p hl nd
  obtain ⟨u2, u3, u4, r⟩ := bar_diff (d := d) (e := e) (S := sortI ms) (A := RNS ms) (B := RNS ns) (w2 := none) (w3 := none) (w4 := none) (by rw [RNS_len, (sortI_perm ms).length_eq]) (by rw [RNS_len, RNS_len, p.length_eq]) ht hne hS
  rw [r] at g2
  refine runA_eq rfl ⟨[some (.dat d), some (.dat e), u2, u3, u4], ?_⟩
  show f_bar [some (.dat d), some (.dat e), none, none, none] = _
  unfold f_bar
  rw [then_nx g1, then_rt g2]
theorem leads_yes {d e : PyData} {ms ns : List Int} (hd : isSq d ms) (he : isSq e ns) (p : ns.Perm ms) (hl : ms.length ≤ 100) (nd : ms.Nodup) (hr : RNS ns = RNS ms) : F_leads [d, e] = some (.dat (.bool true)) := by
  have b := bar_none hd he p hl nd hr
  refine runA_eq rfl ⟨[some (.dat d), some (.dat e)], ?_⟩
  show f_leads [some (.dat d), some (.dat e)] = _
  unfold f_leads
  simp [v_bind, v_ok, v_none, v_pure, v_lift, v_liftN, v_con, v_get, v_gkd, v_gko, v_gkc, v_vwd, v_vws, v_ok1, v_ownD, v_dctD, v_dk1, v_setOwn, v_putM, v_op2, v_op1, v_anil, v_acons, v_vws0, v_vwsC, v_cb, v_tupD, v_lstD, v_lstW, v_listW, v_dds0, v_ddsC, v_asB, v_tb1, v_andT, v_orT, v_notT, v_andV, v_orV, v_notV, v_ofB, v_ifE, v_pl, v_toW, v_fz, v_ofWd, v_ofWo, v_nxt, v_thenS, v_exprS, v_retS, v_retN, v_ifS, v_setS, v_parS, v_setIx, v_asD, v_asI, v_mthE, v_callA, v_callB, v_forS, v_argI, v_seqI, v_slD, v_poN, v_poS, v_isiE, v_isiE2, v_isNE, v_dnew, v_dinT, v_dputS, v_sortDct, v_rgE, v_rg2, v_unS, v_catW, v_chainE, v_add, v_sub, v_lt, v_le, v_gt, v_ge, v_eqI, v_eqB, v_eqS, v_ixL, v_ixT, v_lenL, v_lenT, v_abs, v_intI, v_intB, v_min, v_max, v_chk, b, isNR]
theorem leads_no {d e : PyData} {ms ns : List Int} (hd : isSq d ms) (he : isSq e ns) (p : ns.Perm ms) (hl : ms.length ≤ 100) (nd : ms.Nodup) {k : Nat} {h : Int} (ht : (RNS ms).take k = (RNS ns).take k) (hne : (RNS ms)[k]? ≠ (RNS ns)[k]?) (hS : (sortI ms)[k]? = some h) : F_leads [d, e] = some (.dat (.bool false)) := by
  have b := bar_some hd he p hl nd ht hne hS
  refine runA_eq rfl ⟨[some (.dat d), some (.dat e)], ?_⟩
  show f_leads [some (.dat d), some (.dat e)] = _
  unfold f_leads
  simp [v_bind, v_ok, v_none, v_pure, v_lift, v_liftN, v_con, v_get, v_gkd, v_gko, v_gkc, v_vwd, v_vws, v_ok1, v_ownD, v_dctD, v_dk1, v_setOwn, v_putM, v_op2, v_op1, v_anil, v_acons, v_vws0, v_vwsC, v_cb, v_tupD, v_lstD, v_lstW, v_listW, v_dds0, v_ddsC, v_asB, v_tb1, v_andT, v_orT, v_notT, v_andV, v_orV, v_notV, v_ofB, v_ifE, v_pl, v_toW, v_fz, v_ofWd, v_ofWo, v_nxt, v_thenS, v_exprS, v_retS, v_retN, v_ifS, v_setS, v_parS, v_setIx, v_asD, v_asI, v_mthE, v_callA, v_callB, v_forS, v_argI, v_seqI, v_slD, v_poN, v_poS, v_isiE, v_isiE2, v_isNE, v_dnew, v_dinT, v_dputS, v_sortDct, v_rgE, v_rg2, v_unS, v_catW, v_chainE, v_add, v_sub, v_lt, v_le, v_gt, v_ge, v_eqI, v_eqB, v_eqS, v_ixL, v_ixT, v_lenL, v_lenT, v_abs, v_intI, v_intB, v_min, v_max, v_chk, b, isNR]
end Ov

set_option Elab.async false
set_option linter.all false
set_option maxHeartbeats 1000000
namespace Ov
/-! exchanges: one code changes by one, in its run -/
theorem pt_get : ∀ {iv : List Iv} {s e : Int} {i : Nat} {p : Iv}, Pt s e iv → iv[i]? = some p → s ≤ p.1 ∧ p.1 ≤ p.2 ∧ p.2 < e
  | [], s, e, i, p, h, k => by simp at k
  | q :: r, s, e, 0, p, h, k => by
    have : q = p := by simpa using k
    subst this
    have h1 := h.1
    have h2 := h.2.1
    have := Pt.le h.2.2
    omega
  | q :: r, s, e, i + 1, p, h, k => by
    have := pt_get h.2.2 (i := i) (by simpa using k)
    have h2 := h.2.1
    omega
theorem pt_lt : ∀ {iv : List Iv} {s e : Int} {i j : Nat} {p q : Iv}, Pt s e iv → iv[i]? = some p → iv[j]? = some q → i < j → p.2 < q.1
  | [], s, e, i, j, p, q, h, k, _, _ => by simp at k
  | x :: r, s, e, 0, j, p, q, h, k, k2, lt => by
    have : x = p := by simpa using k
    subst this
    obtain ⟨j, rfl⟩ : ∃ z, j = z + 1 := ⟨j - 1, by omega⟩
    have := pt_get h.2.2 (i := j) (p := q) (by simpa using k2)
    omega
  | x :: r, s, e, i + 1, j, p, q, h, k, k2, lt => by
    obtain ⟨j, rfl⟩ : ∃ z, j = z + 1 := ⟨j - 1, by omega⟩
    exact pt_lt h.2.2 (i := i) (j := j) (by simpa using k) (by simpa using k2) (by omega)
theorem pt_le {iv : List Iv} {s e : Int} {i j : Nat} {p q : Iv} (h : Pt s e iv) (k : iv[i]? = some p) (k2 : iv[j]? = some q) (le : i ≤ j) : p.1 ≤ q.1 ∧ p.2 ≤ q.2 := by
  by_cases c : i = j
  · subst c
    rw [k] at k2
    cases k2
    exact ⟨Int.le_refl _, Int.le_refl _⟩
  · have a := pt_lt h k k2 (by omega)
    have b := pt_get h k
    have c := pt_get h k2
    omega
theorem pt_adj : ∀ {iv : List Iv} {s e : Int} {i : Nat} {p q : Iv}, Pt s e iv → iv[i]? = some p → iv[i + 1]? = some q → q.1 = p.2 + 1
  | [], s, e, i, p, q, h, k, _ => by simp at k
  | [x], s, e, i, p, q, h, k, k2 => by simp at k2
  | x :: y :: r, s, e, 0, p, q, h, k, k2 => by
    have : x = p := by simpa using k
    subst this
    have : y = q := by simpa using k2
    subst this
    exact h.2.2.1
  | x :: y :: r, s, e, i + 1, p, q, h, k, k2 => pt_adj h.2.2 (i := i) (by simpa using k) (by simpa using k2)
theorem pt_first {iv : List Iv} {s e : Int} {p : Iv} (h : Pt s e iv) (k : iv[0]? = some p) : p.1 = s := by
  cases iv with
  | nil => simp at k
  | cons x r =>
    have : x = p := by simpa using k
    subst this
    exact h.1
theorem pt_last : ∀ {iv : List Iv} {s e : Int} {i : Nat} {p : Iv}, Pt s e iv → iv[i]? = some p → i + 1 = iv.length → p.2 + 1 = e
  | [], s, e, i, p, h, k, _ => by simp at k
  | [x], s, e, i, p, h, k, l => by
    have : i = 0 := by simpa using l
    subst this
    have : x = p := by simpa using k
    subst this
    exact h.2.2
  | x :: y :: r, s, e, 0, p, h, k, l => by simp at l
  | x :: y :: r, s, e, i + 1, p, h, k, l => pt_last h.2.2 (i := i) (by simpa using k) (by simpa using l)
def jn (iv : List Iv) (k : Int) : Prop := ∃ (i : Nat) (p : Iv), iv[i]? = some p ∧ p.1 ≤ k ∧ k + 1 ≤ p.2
section
variable {iv : List Iv} {m c : Int} {a : Nat} {r : Iv}
theorem nx_parts (h : Pt 0 m iv) (ha : iv[a]? = some r) : ∃ pl pr : Iv, iv[lf a]? = some pl ∧ iv[rg iv a]? = some pr ∧ (nx iv a)[lf a]? = some (pl.1, pr.2 - 1) ∧ (∀ (i : Nat) (p : Iv), i < lf a → iv[i]? = some p → (nx iv a)[i]? = some p) ∧ ∀ (i : Nat) (p : Iv), rg iv a < i → iv[i]? = some p → ∃ j : Nat, (nx iv a)[j]? = some (p.1 - 1, p.2 - 1) := by
  have hl := lt_of_get ha
  have l1 : lf a < iv.length := by unfold lf; omega
  have l2 : rg iv a < iv.length := by unfold rg; omega
  have g1 : iv[lf a]? = some iv[lf a] := List.getElem?_eq_getElem l1
  have g2 : iv[rg iv a]? = some iv[rg iv a] := List.getElem?_eq_getElem l2
  have tl : (iv.take (lf a)).length = lf a := by rw [List.length_take]; omega
  refine ⟨_, _, g1, g2, ?_, fun i p hi hp => ?_, fun i p hi hp => ?_⟩
  · unfold nx
    rw [List.append_assoc, List.getElem?_append_right (by omega), tl, Nat.sub_self, List.getD_eq_getElem?_getD, List.getD_eq_getElem?_getD, g1, g2]
    rfl
  · unfold nx
    rw [List.append_assoc, List.getElem?_append_left (by omega), List.getElem?_take_of_lt hi]
    exact hp
  · refine ⟨lf a + 1 + (i - (rg iv a + 1)), ?_⟩
    unfold nx
    rw [List.getElem?_append_right (by rw [List.length_append, tl]; show lf a + 1 ≤ _; omega), List.length_append, tl]
    show ((iv.drop (rg iv a + 1)).map _)[lf a + 1 + (i - (rg iv a + 1)) - (lf a + 1)]? = _
    rw [show lf a + 1 + (i - (rg iv a + 1)) - (lf a + 1) = i - (rg iv a + 1) by omega, List.getElem?_map, List.getElem?_drop, show rg iv a + 1 + (i - (rg iv a + 1)) = i by omega, hp]
    rfl
theorem jn_lo (h : Pt 0 m iv) (ha : iv[a]? = some r) (h1 : r.1 ≤ c) (h2 : c ≤ r.2) {k : Int} (hj : jn iv k) (hk : k + 1 < c) : jn (nx iv a) k := by
  obtain ⟨pl, pr, g1, g2, n1, n2, n3⟩ := nx_parts h ha
  obtain ⟨i, p, hp, p1, p2⟩ := hj
  have hl := lt_of_get ha
  have la : lf a ≤ a := by unfold lf; omega
  have ra : a ≤ rg iv a := by unfold rg; omega
  by_cases c1 : i < lf a
  · exact ⟨i, p, n2 i p c1 hp, p1, p2⟩
  · have e1 := pt_le h g1 hp (by omega)
    have e2 := pt_le h ha g2 ra
    exact ⟨_, _, n1, by show pl.1 ≤ k; omega, by show k + 1 ≤ pr.2 - 1; omega⟩
theorem jn_hi (h : Pt 0 m iv) (ha : iv[a]? = some r) (h1 : r.1 ≤ c) (h2 : c ≤ r.2) {k : Int} (hj : jn iv (k + 1)) (hk : c ≤ k) : jn (nx iv a) k := by
  obtain ⟨pl, pr, g1, g2, n1, n2, n3⟩ := nx_parts h ha
  obtain ⟨i, p, hp, p1, p2⟩ := hj
  have hl := lt_of_get ha
  have la : lf a ≤ a := by unfold lf; omega
  have ra : a ≤ rg iv a := by unfold rg; omega
  by_cases c1 : rg iv a < i
  · obtain ⟨j, hj⟩ := n3 i p c1 hp
    exact ⟨j, _, hj, by show p.1 - 1 ≤ k; omega, by show k + 1 ≤ p.2 - 1; omega⟩
  · have e1 := pt_le h g1 ha la
    have e2 := pt_le h hp g2 (by omega)
    exact ⟨_, _, n1, by show pl.1 ≤ k; omega, by show k + 1 ≤ pr.2 - 1; omega⟩
theorem jn_at (h : Pt 0 m iv) (ha : iv[a]? = some r) (h1 : r.1 ≤ c) (h2 : c ≤ r.2) (k1 : 1 ≤ c) (k2 : c + 1 < m) : jn (nx iv a) (c - 1) := by
  obtain ⟨pl, pr, g1, g2, n1, n2, n3⟩ := nx_parts h ha
  have hl := lt_of_get ha
  refine ⟨_, _, n1, ?_, ?_⟩
  · show pl.1 ≤ c - 1
    by_cases z : a = 0
    · have : lf a = 0 := by unfold lf; omega
      rw [this] at g1
      have := pt_first h g1
      omega
    · have e : lf a + 1 = a := by unfold lf; omega
      have := pt_adj h g1 (by rw [e]; exact ha)
      have := pt_get h g1
      omega
  · show c - 1 + 1 ≤ pr.2 - 1
    by_cases z : a + 1 < iv.length
    · have e : rg iv a = a + 1 := by unfold rg; omega
      rw [e] at g2
      have := pt_adj h ha g2
      have := pt_get h g2
      omega
    · have e : rg iv a = a := by unfold rg; omega
      rw [e, ha] at g2
      cases g2
      have := pt_last h ha (by omega)
      omega
end
/-- the lowest of a row, taken out -/
theorem low_out {S l1 l2 : List Int} {h : Int} {iv : List Iv} (pw : (h :: S).Pairwise (· < ·)) (p : (l1 ++ h :: l2).Perm (h :: S)) (hp : Pt 0 ((l1 ++ h :: l2).length : Nat) iv) :
    S.Pairwise (· < ·) ∧ (l1 ++ l2).Perm S ∧ h ∉ l1 ++ l2 ∧ (∀ x ∈ l1 ++ l2, h < x) ∧ ∃ r : Iv, iv[rix iv (l1.length : Int)]? = some r ∧ r.1 ≤ (l1.length : Int) ∧ (l1.length : Int) ≤ r.2 ∧
      rns iv ((h :: S).map (mk (l1 ++ h :: l2))) = r :: rns (nx iv (rix iv (l1.length : Int))) (S.map (mk (l1 ++ l2))) ∧ (l1 ++ l2 ≠ [] → Pt 0 ((l1 ++ l2).length : Nat) (nx iv (rix iv (l1.length : Int)))) := by
  obtain ⟨lo, pw'⟩ := List.pairwise_cons.mp pw
  have p' : (l1 ++ l2).Perm S := (List.perm_middle.symm.trans p).cons_inv
  have lo' : ∀ x ∈ l1 ++ l2, h < x := fun x hx => lo x (p'.subset hx)
  have nh : h ∉ l1 ++ l2 := fun z => by have := lo' h z; omega
  have em : S.map (mk (l1 ++ h :: l2)) = S.map (mk (l1 ++ l2)) := List.map_congr_left fun k hk => mk_up (lo k hk)
  have ll : (l1 ++ h :: l2).length = l1.length + l2.length + 1 := by rw [List.length_append, List.length_cons]; omega
  obtain ⟨r, e1, e2, e3, _, _⟩ := rix_at hp (c := (l1.length : Int)) (by omega) (by rw [ll]; omega)
  refine ⟨pw', p', nh, lo', r, e1, e2, e3, ?_, fun z => ?_⟩
  · rw [List.map_cons, mk_low (fun z => nh (List.mem_append_left _ z)) lo', em, rns_cons e1]
  · have lz : (l1 ++ l2).length ≠ 0 := fun y => z (List.length_eq_zero_iff.mp y)
    rw [List.length_append] at lz
    have := nx_pt hp (a := rix iv (l1.length : Int)) (by rw [ll]; omega) (lt_of_get e1)
    rw [ll] at this
    rw [List.length_append, show ((l1.length + l2.length : Nat) : Int) = ((l1.length + l2.length + 1 : Nat) : Int) - 1 by omega]
    exact this
theorem filt_drop {A1 A2 : List Int} {h x : Int} (lt : h < x) : (A1 ++ h :: A2).filter (fun o => decide (x ≤ o)) = (A1 ++ A2).filter (fun o => decide (x ≤ o)) := by
  rw [List.filter_append, List.filter_cons, List.filter_append]
  simp [show ¬ x ≤ h by omega]
theorem adj_run : ∀ {S ms : List Int} {iv : List Iv}, S.Pairwise (· < ·) → ms.Perm S → Pt 0 (ms.length : Nat) iv → ∀ {A C : List Int} {a b x : Int} {t : Nat}, ms = A ++ a :: b :: C → jn iv (A.length : Nat) → S[t]? = some x → x = min a b →
    ∃ p : Iv, (rns iv (S.map (mk ms)))[t]? = some p ∧ p.1 ≤ ((A.filter fun o => decide (x ≤ o)).length : Nat) ∧ (((A.filter fun o => decide (x ≤ o)).length : Nat) : Int) + 1 ≤ p.2
  | [], ms, iv, pw, p, hp, A, C, a, b, x, t, e, hj, ht, hx => by simp at ht
  | h :: S, ms, iv, pw, p, hp, A, C, a, b, x, t, e, hj, ht, hx => by
    subst e
    have nd : (A ++ a :: b :: C).Nodup := p.nodup_iff.mpr (pw.imp fun z => by omega)
    obtain ⟨lo, _⟩ := List.pairwise_cons.mp pw
    have low : ∀ y ∈ A ++ a :: b :: C, h ≤ y := fun y hy => by
      rcases List.mem_cons.mp (p.subset hy) with rfl | z
      · exact Int.le_refl _
      · have := lo y z; omega
    have hh : h ∈ A ++ a :: b :: C := p.symm.subset (List.mem_cons_self ..)
    by_cases c1 : x = h
    · -- the shorter one of the two is the lowest
      subst c1
      have t0 : t = 0 := by
        cases t with
        | zero => rfl
        | succ t => have := lo x (List.mem_of_getElem? (by simpa using ht)); omega
      subst t0
      have fa : (A.filter fun o => decide (x ≤ o)) = A := List.filter_eq_self.mpr fun y hy => decide_eq_true (low y (List.mem_append_left _ hy))
      rw [fa]
      obtain ⟨i, q, hq, q1, q2⟩ := hj
      have two : x = a ∨ x = b := by omega
      rcases two with rfl | rfl
      · obtain ⟨_, _, _, _, r, e1, e2, e3, e4, _⟩ := low_out (l1 := A) (l2 := b :: C) pw p hp
        have := rix_in hp hq (c := (A.length : Int)) (by omega) (by omega)
        rw [this, hq] at e1
        cases e1
        exact ⟨q, by rw [e4]; rfl, q1, q2⟩
      · have pe : (A ++ a :: x :: C) = (A ++ [a]) ++ x :: C := by simp
        rw [pe] at p hp ⊢
        obtain ⟨_, _, _, _, r, e1, e2, e3, e4, _⟩ := low_out (l1 := A ++ [a]) (l2 := C) pw p hp
        have l1 : (((A ++ [a]).length : Nat) : Int) = (A.length : Int) + 1 := by rw [List.length_append]; rfl
        have := rix_in hp hq (c := (((A ++ [a]).length : Nat) : Int)) (by omega) (by omega)
        rw [this, hq] at e1
        cases e1
        exact ⟨q, by rw [e4]; rfl, q1, q2⟩
    · -- somebody else is the lowest
      have ha := low a (by simp)
      have hb := low b (by simp)
      have nh : h ≠ a ∧ h ≠ b := by
        refine ⟨fun z => ?_, fun z => ?_⟩ <;> exact c1 (by omega)
      obtain ⟨t, rfl⟩ : ∃ z, t = z + 1 := by
        cases t with
        | zero => exact absurd (by simpa using ht : h = x).symm c1
        | succ t => exact ⟨t, rfl⟩
      have ht : S[t]? = some x := by simpa using ht
      have hx' : h < x := by omega
      rcases List.mem_append.mp hh with hA | hC
      · obtain ⟨A1, A2, rfl⟩ := List.append_of_mem hA
        have pe : (A1 ++ h :: A2) ++ a :: b :: C = A1 ++ h :: (A2 ++ a :: b :: C) := by simp
        rw [pe] at p hp ⊢
        obtain ⟨pw', p', _, _, r, e1, e2, e3, e4, e5⟩ := low_out (l1 := A1) (l2 := A2 ++ a :: b :: C) pw p hp
        have l1 : (((A1 ++ h :: A2).length : Nat) : Int) = (((A1 ++ A2).length : Nat) : Int) + 1 := by rw [List.length_append, List.length_cons, List.length_append]; omega
        rw [l1] at hj
        have j2 := jn_hi hp e1 e2 e3 hj (by rw [List.length_append]; omega)
        obtain ⟨q, g1, g2, g3⟩ := adj_run (A := A1 ++ A2) (C := C) pw' p' (e5 (by simp)) (by simp) j2 ht hx
        rw [filt_drop hx']
        exact ⟨q, by rw [e4]; exact g1, g2, g3⟩
      · have hC : h ∈ C := by
          rcases List.mem_cons.mp hC with z | hC
          · exact absurd z nh.1
          · rcases List.mem_cons.mp hC with z | hC
            · exact absurd z nh.2
            · exact hC
        obtain ⟨C1, C2, rfl⟩ := List.append_of_mem hC
        have pe : A ++ a :: b :: (C1 ++ h :: C2) = (A ++ a :: b :: C1) ++ h :: C2 := by simp
        rw [pe] at p hp ⊢
        obtain ⟨pw', p', _, _, r, e1, e2, e3, e4, e5⟩ := low_out (l1 := A ++ a :: b :: C1) (l2 := C2) pw p hp
        have j2 := jn_lo hp e1 e2 e3 hj (by rw [List.length_append, List.length_cons, List.length_cons]; omega)
        obtain ⟨q, g1, g2, g3⟩ := adj_run (A := A) (C := C1 ++ C2) pw' p' (e5 (by simp)) (by simp) j2 ht hx
        exact ⟨q, by rw [e4]; exact g1, g2, g3⟩
theorem gap_run : ∀ {S ms : List Int} {iv : List Iv}, S.Pairwise (· < ·) → ms.Perm S → Pt 0 (ms.length : Nat) iv → ∀ {A B C : List Int} {a b x : Int} {t : Nat}, ms = A ++ a :: (B ++ b :: C) → B ≠ [] → (∀ y ∈ B, y < a ∧ y < b) → S[t]? = some x → x = min a b →
    ∃ p : Iv, (rns iv (S.map (mk ms)))[t]? = some p ∧ p.1 ≤ ((A.filter fun o => decide (x ≤ o)).length : Nat) ∧ (((A.filter fun o => decide (x ≤ o)).length : Nat) : Int) + 1 ≤ p.2
  | [], ms, iv, pw, p, hp, A, B, C, a, b, x, t, e, hB, hb, ht, hx => by simp at ht
  | h :: S, ms, iv, pw, p, hp, A, B, C, a, b, x, t, e, hB, hb, ht, hx => by
    subst e
    obtain ⟨lo, _⟩ := List.pairwise_cons.mp pw
    have low : ∀ y ∈ A ++ a :: (B ++ b :: C), h ≤ y := fun y hy => by
      rcases List.mem_cons.mp (p.subset hy) with rfl | z
      · exact Int.le_refl _
      · have := lo y z; omega
    obtain ⟨y, hy⟩ := List.exists_mem_of_ne_nil B hB
    have y1 := hb y hy
    have y2 := low y (by simp [hy])
    have hx' : h < x := by omega
    obtain ⟨t, rfl⟩ : ∃ z, t = z + 1 := by
      cases t with
      | zero => have : h = x := by simpa using ht
                omega
      | succ t => exact ⟨t, rfl⟩
    have ht : S[t]? = some x := by simpa using ht
    have hh : h ∈ A ++ a :: (B ++ b :: C) := p.symm.subset (List.mem_cons_self ..)
    rcases List.mem_append.mp hh with hA | hh
    · obtain ⟨A1, A2, rfl⟩ := List.append_of_mem hA
      have pe : (A1 ++ h :: A2) ++ a :: (B ++ b :: C) = A1 ++ h :: (A2 ++ a :: (B ++ b :: C)) := by simp
      rw [pe] at p hp ⊢
      obtain ⟨pw', p', _, _, r, e1, e2, e3, e4, e5⟩ := low_out (l1 := A1) (l2 := A2 ++ a :: (B ++ b :: C)) pw p hp
      obtain ⟨q, g1, g2, g3⟩ := gap_run (A := A1 ++ A2) (B := B) (C := C) pw' p' (e5 (by simp)) (by simp) hB hb ht hx
      rw [filt_drop hx']
      exact ⟨q, by rw [e4]; exact g1, g2, g3⟩
    · rcases List.mem_cons.mp hh with z | hh
      · omega
      · rcases List.mem_append.mp hh with hB' | hh
        · obtain ⟨B1, B2, rfl⟩ := List.append_of_mem hB'
          have pe : A ++ a :: ((B1 ++ h :: B2) ++ b :: C) = (A ++ a :: B1) ++ h :: (B2 ++ b :: C) := by simp
          rw [pe] at p hp ⊢
          obtain ⟨pw', p', _, _, r, e1, e2, e3, e4, e5⟩ := low_out (l1 := A ++ a :: B1) (l2 := B2 ++ b :: C) pw p hp
          by_cases c1 : B1 ++ B2 = []
          · obtain ⟨z1, z2⟩ := List.append_eq_nil_iff.mp c1
            subst z1 z2
            have lz : (((A ++ [a]).length : Nat) : Int) = (A.length : Int) + 1 := by rw [List.length_append]; rfl
            have lm : (A ++ [a] ++ h :: ([] ++ b :: C)).length = A.length + C.length + 3 := by simp; omega
            have j2 := jn_at hp e1 e2 e3 (by rw [lz]; omega) (by rw [lm, lz]; omega)
            rw [show (((A ++ [a]).length : Nat) : Int) - 1 = A.length by omega] at j2
            obtain ⟨q, g1, g2, g3⟩ := adj_run (A := A) (C := C) (a := a) (b := b) pw' p' (e5 (by simp)) (by simp) j2 ht hx
            exact ⟨q, by rw [e4]; exact g1, g2, g3⟩
          · obtain ⟨q, g1, g2, g3⟩ := gap_run (A := A) (B := B1 ++ B2) (C := C) pw' p' (e5 (by simp)) (by simp) c1 (fun z hz => hb z (by rcases List.mem_append.mp hz with w | w <;> simp [w])) ht hx
            exact ⟨q, by rw [e4]; exact g1, g2, g3⟩
        · have hC : h ∈ C := by
            rcases List.mem_cons.mp hh with z | hC
            · omega
            · exact hC
          obtain ⟨C1, C2, rfl⟩ := List.append_of_mem hC
          have pe : A ++ a :: (B ++ b :: (C1 ++ h :: C2)) = (A ++ a :: (B ++ b :: C1)) ++ h :: C2 := by simp
          rw [pe] at p hp ⊢
          obtain ⟨pw', p', _, _, r, e1, e2, e3, e4, e5⟩ := low_out (l1 := A ++ a :: (B ++ b :: C1)) (l2 := C2) pw p hp
          obtain ⟨q, g1, g2, g3⟩ := gap_run (A := A) (B := B) (C := C1 ++ C2) pw' p' (e5 (by simp)) (by simp) hB hb ht hx
          exact ⟨q, by rw [e4]; exact g1, g2, g3⟩
end Ov

set_option Elab.async false
set_option linter.all false
set_option maxHeartbeats 1000000
namespace Ov
/-! the codes after an exchange -/
theorem ix_ne {a h : Int} {l : List Int} (n : h ≠ a) : (a :: l).idxOf h = l.idxOf h + 1 := by
  rw [List.idxOf_cons, show (a == h) = false by simpa using Ne.symm n]
  rfl
theorem idx_swap {P Q T : List Int} {a b h : Int} (ha : h ≠ a) (hb : h ≠ b) : (P ++ a :: (Q ++ b :: T)).idxOf h = (P ++ b :: (Q ++ a :: T)).idxOf h := by
  rw [List.idxOf_append, List.idxOf_append]
  by_cases c : h ∈ P
  · rw [if_pos c, if_pos c]
  · rw [if_neg c, if_neg c, ix_ne ha, ix_ne hb, List.idxOf_append, List.idxOf_append]
    by_cases c : h ∈ Q
    · rw [if_pos c, if_pos c]
    · rw [if_neg c, if_neg c, ix_ne hb, ix_ne ha]
def fh (h : Int) (l : List Int) : List Int := l.filter fun o => decide (h ≤ o)
theorem fh_app (h : Int) (a b : List Int) : fh h (a ++ b) = fh h a ++ fh h b := List.filter_append _ _
theorem fh_yes {h a : Int} {l : List Int} (c : h ≤ a) : fh h (a :: l) = a :: fh h l := by
  unfold fh
  rw [List.filter_cons, if_pos (decide_eq_true c)]
theorem fh_no {h a : Int} {l : List Int} (c : a < h) : fh h (a :: l) = fh h l := by
  unfold fh
  rw [List.filter_cons, if_neg (by simpa using c)]
theorem fh_nil {h : Int} {l : List Int} (c : ∀ y ∈ l, y < h) : fh h l = [] := List.filter_eq_nil_iff.mpr fun y hy => by simpa using c y hy
theorem mk_fh (ms : List Int) (h : Int) : mk ms h = (((fh h ms).idxOf h : Nat) : Int) := rfl
section
variable {A B C : List Int} {a b : Int}
theorem mk_swap_ne (nd : (A ++ a :: (B ++ b :: C)).Nodup) (hb : ∀ y ∈ B, y < a ∧ y < b) {h : Int} (hh : h ≠ min a b) : mk (A ++ b :: (B ++ a :: C)) h = mk (A ++ a :: (B ++ b :: C)) h := by
  rw [mk_fh, mk_fh]
  by_cases c : h < min a b
  · have h1 : h ≤ a := by omega
    have h2 : h ≤ b := by omega
    rw [fh_app, fh_yes h2, fh_app, fh_yes h1, fh_app, fh_yes h1, fh_app, fh_yes h2, idx_swap (by omega) (by omega)]
  · have nB : fh h B = [] := fh_nil fun y hy => by have := hb y hy; omega
    have e : fh h (A ++ b :: (B ++ a :: C)) = fh h (A ++ a :: (B ++ b :: C)) := by
      rw [fh_app, fh_app]
      congr 1
      by_cases c1 : a < b
      · have h1 : a < h := by omega
        rw [fh_no h1, fh_app, nB, List.nil_append]
        by_cases c2 : h ≤ b
        · rw [fh_yes c2, fh_app, nB, List.nil_append, fh_no h1, fh_yes c2]
        · rw [fh_no (by omega), fh_app, nB, List.nil_append, fh_no h1, fh_no (by omega)]
      · have h1 : b < h := by omega
        rw [fh_no h1, fh_app, nB, List.nil_append]
        by_cases c2 : h ≤ a
        · rw [fh_yes c2, fh_yes c2, fh_app, nB, List.nil_append, fh_no h1]
        · rw [fh_no (by omega), fh_no (by omega), fh_app, nB, List.nil_append, fh_no h1]
    rw [e]
theorem mk_swap_eq (nd : (A ++ a :: (B ++ b :: C)).Nodup) (hb : ∀ y ∈ B, y < a ∧ y < b) (lt : a < b) : mk (A ++ a :: (B ++ b :: C)) a = ((fh a A).length : Nat) ∧ mk (A ++ b :: (B ++ a :: C)) a = ((fh a A).length : Nat) + 1 := by
  have nA : a ∉ A := fun z => by
    have := (List.nodup_append.mp nd).2.2 a z a (List.mem_cons_self ..)
    exact this rfl
  have nB : fh a B = [] := fh_nil fun y hy => (hb y hy).1
  have nF : a ∉ fh a A := fun z => nA (List.mem_filter.mp z).1
  constructor
  · rw [mk_fh, fh_app, fh_yes (Int.le_refl _), fh_app, nB, List.nil_append, fh_yes (by omega), idx_mid nF]
  · rw [mk_fh, fh_app, fh_yes (by omega), fh_app, nB, List.nil_append, fh_yes (Int.le_refl _)]
    have : fh a A ++ b :: a :: fh a C = (fh a A ++ [b]) ++ a :: fh a C := by simp
    rw [this, idx_mid (fun z => by
      rcases List.mem_append.mp z with z | z
      · exact nF z
      · have := List.mem_singleton.mp z; omega), List.length_append]
    rfl
end
/-- an exchange of a row -/
structure Xc (ms ns : List Int) (x e : Int) : Prop where
  perm : ns.Perm ms
  mem : x ∈ ms
  one : e = 1 ∨ e = -1
  same : ∀ h, h ≠ x → mk ns h = mk ms h
  step : mk ns x = mk ms x + e
  run : ∀ (t : Nat) (p : Iv), (sortI ms)[t]? = some x → (RNS ms)[t]? = some p → p.1 ≤ mk ns x ∧ mk ns x ≤ p.2
theorem xc_of {A B C : List Int} {a b : Int} (nd : (A ++ a :: (B ++ b :: C)).Nodup) (hB : B ≠ []) (hb : ∀ y ∈ B, y < a ∧ y < b) :
    Xc (A ++ a :: (B ++ b :: C)) (A ++ b :: (B ++ a :: C)) (min a b) (if a < b then 1 else -1) := by
  have ab : a ≠ b := by
    have := (List.nodup_cons.mp (List.nodup_append.mp nd).2.1).1
    exact fun z => this (by rw [z]; simp)
  have pm : (A ++ b :: (B ++ a :: C)).Perm (A ++ a :: (B ++ b :: C)) := by
    refine List.Perm.append_left A ?_
    exact ((List.perm_middle (l₁ := B) (l₂ := C) (a := a)).cons b).trans ((List.Perm.swap a b (B ++ C)).trans ((List.perm_middle (l₁ := B) (l₂ := C) (a := b)).symm.cons a))
  have nd' := pm.nodup_iff.mpr nd
  have hb' : ∀ y ∈ B, y < b ∧ y < a := fun y hy => (hb y hy).symm
  have rn : ∀ (t : Nat) (p : Iv), (sortI (A ++ a :: (B ++ b :: C)))[t]? = some (min a b) → (RNS (A ++ a :: (B ++ b :: C)))[t]? = some p → p.1 ≤ ((fh (min a b) A).length : Nat) ∧ (((fh (min a b) A).length : Nat) : Int) + 1 ≤ p.2 := fun t p ht hp => by
    obtain ⟨q, g1, g2, g3⟩ := gap_run (sortI_lt nd) (sortI_perm _).symm (fiv_pt _) (A := A) (B := B) (C := C) (a := a) (b := b) rfl hB hb ht rfl
    have : some q = some p := g1.symm.trans hp
    cases this
    exact ⟨g2, g3⟩
  by_cases c : a < b
  · have mn : min a b = a := by omega
    obtain ⟨m1, m2⟩ := mk_swap_eq nd hb c
    rw [if_pos c]
    refine ⟨pm, by rw [mn]; simp, .inl rfl, fun h hh => mk_swap_ne nd hb hh, by rw [mn]; omega, fun t p ht hp => ?_⟩
    have := rn t p ht hp
    rw [mn] at this ⊢
    omega
  · have mn : min a b = b := by omega
    obtain ⟨m1, m2⟩ := mk_swap_eq (A := A) (B := B) (C := C) (a := b) (b := a) nd' hb' (by omega)
    rw [if_neg c]
    refine ⟨pm, by rw [mn]; simp, .inr rfl, fun h hh => mk_swap_ne nd hb hh, by rw [mn]; omega, fun t p ht hp => ?_⟩
    have := rn t p ht hp
    rw [mn] at this ⊢
    omega
/-- the runs stay -/
theorem Xc.rns {ms ns : List Int} {x e : Int} (h : Xc ms ns x e) (nd : ms.Nodup) : RNS ns = RNS ms := by
  have hs : sortI ns = sortI ms := sort_perm h.perm
  have hl : ns.length = ms.length := h.perm.length_eq
  have := (rns_same (ds := mks ns) (fiv_pt ms.length) (by rw [mks_len]) (vd_row nd) (by rw [mks_len, mks_len, hl]) fun j p d hp hd => ?_).1
  · unfold RNS
    rw [hl]
    exact this
  · unfold mks at hd
    rw [hs, List.getElem?_map] at hd
    obtain ⟨y, hy, hd⟩ := Option.map_eq_some_iff.mp hd
    subst hd
    by_cases c : y = x
    · subst c
      exact h.run j p hy hp
    · rw [h.same y c]
      have := rns_ok (fiv_pt ms.length) (by rw [mks_len]) (vd_row nd) j p (Ov.mk ms y) hp (by unfold mks; rw [List.getElem?_map, hy]; rfl)
      exact ⟨this.2.1, this.2.2.1⟩
/-! no exchange: each run is one index -/
theorem fiv_get {m c : Nat} (h : c < m) : (fiv m)[c]? = some ((c : Int), (c : Int)) := by
  unfold fiv
  rw [List.getElem?_map, List.getElem?_range h]
  rfl
theorem fiv_rix {m c : Nat} (h : c < m) : rix (fiv m) (c : Int) = c := rix_in (fiv_pt m) (fiv_get h) (Int.le_refl _) (Int.le_refl _)
theorem fiv_succ (n : Nat) : fiv (n + 1) = fiv n ++ [((n : Int), (n : Int))] := by
  unfold fiv
  rw [List.range_succ, List.map_append]
  rfl
theorem fiv_len (n : Nat) : (fiv n).length = n := by unfold fiv; simp
theorem nx_fiv_end (k : Nat) : nx (fiv (k + 2)) (k + 1) = fiv (k + 1) := by
  unfold nx
  have l1 : lf (k + 1) = k := rfl
  have l2 : rg (fiv (k + 2)) (k + 1) = k + 1 := by unfold rg; rw [fiv_len]; omega
  rw [l1, l2, List.getD_eq_getElem?_getD, List.getD_eq_getElem?_getD, fiv_get (by omega), fiv_get (by omega), List.drop_eq_nil_of_le (by rw [fiv_len]; omega)]
  have t : (fiv (k + 2)).take k = fiv k := by
    rw [fiv_succ, fiv_succ, List.append_assoc, List.take_append_of_le_length (by rw [fiv_len]; omega), List.take_of_length_le (by rw [fiv_len]; omega)]
  rw [t, fiv_succ]
  simp
theorem nx_fiv_zero (k : Nat) : nx (fiv (k + 2)) 0 = fiv (k + 1) := by
  have cons : ∀ n, fiv (n + 1) = (0, 0) :: (fiv n).map fun p => (p.1 + 1, p.2 + 1) := fun n => by
    unfold fiv
    rw [List.range_succ_eq_map, List.map_cons, List.map_map, List.map_map]
    rfl
  unfold nx
  have l1 : lf 0 = 0 := rfl
  have l2 : rg (fiv (k + 2)) 0 = 1 := by unfold rg; rw [fiv_len]; omega
  rw [l1, l2, List.getD_eq_getElem?_getD, List.getD_eq_getElem?_getD, fiv_get (by omega), fiv_get (by omega)]
  rw [cons (k + 1), cons k]
  simp [List.map_map, Function.comp_def]
def noX (ms : List Int) : Prop := ∀ (A B C : List Int) (a b : Int), ms = A ++ a :: (B ++ b :: C) → B ≠ [] → ¬ ∀ y ∈ B, y < a ∧ y < b
theorem flat_run : ∀ {S ms : List Int}, S.Pairwise (· < ·) → ms.Perm S → noX ms → ∀ p ∈ rns (fiv ms.length) (S.map (mk ms)), p.1 = p.2
  | [], ms, pw, p, hn, q, hq => by cases hq
  | h :: S, ms, pw, p, hn, q, hq => by
    have hin : h ∈ ms := p.symm.subset (List.mem_cons_self ..)
    obtain ⟨l1, l2, rfl⟩ := List.append_of_mem hin
    obtain ⟨pw', p', nh, lo, r, e1, e2, e3, e4, e5⟩ := low_out pw p (fiv_pt _)
    have ll : (l1 ++ h :: l2).length = l1.length + l2.length + 1 := by rw [List.length_append, List.length_cons]; omega
    rw [e4] at hq
    have rr : r = ((l1.length : Int), (l1.length : Int)) := by
      rw [fiv_rix (by rw [ll]; omega), fiv_get (by rw [ll]; omega)] at e1
      exact (Option.some.inj e1).symm
    rcases List.mem_cons.mp hq with rfl | hq
    · rw [rr]
    · by_cases z : l1 ++ l2 = []
      · have : S = [] := by rw [z] at p'; exact List.nil_perm.mp p'
        subst this
        cases hq
      · -- the lowest stands at an end
        have ends : l1 = [] ∨ l2 = [] := by
          by_cases c1 : l1 = []
          · exact .inl c1
          · by_cases c2 : l2 = []
            · exact .inr c2
            · obtain ⟨A, a, rfl⟩ : ∃ A a, l1 = A ++ [a] := ⟨l1.dropLast, l1.getLast c1, (List.dropLast_concat_getLast c1).symm⟩
              obtain ⟨b, C, rfl⟩ : ∃ b C, l2 = b :: C := by
                cases l2 with
                | nil => exact absurd rfl c2
                | cons b C => exact ⟨b, C, rfl⟩
              exact absurd (fun y hy => by
                rw [List.mem_singleton.mp hy]
                exact ⟨lo a (by simp), lo b (by simp)⟩) (hn A [h] C a b (by simp) (by simp))
        have nxe : nx (fiv (l1 ++ h :: l2).length) (rix (fiv (l1 ++ h :: l2).length) (l1.length : Int)) = fiv (l1 ++ l2).length := by
          rw [fiv_rix (by rw [ll]; omega)]
          have lz : (l1 ++ l2).length ≠ 0 := fun y => z (List.length_eq_zero_iff.mp y)
          rw [List.length_append] at lz
          rcases ends with rfl | rfl
          · obtain ⟨k, hk⟩ : ∃ k, l2.length = k + 1 := ⟨l2.length - 1, by rw [List.length_nil] at lz; omega⟩
            rw [ll, List.nil_append, hk]
            simp only [List.length_nil, Nat.zero_add]
            exact nx_fiv_zero k
          · obtain ⟨k, hk⟩ : ∃ k, l1.length = k + 1 := ⟨l1.length - 1, by rw [List.length_nil] at lz; omega⟩
            rw [ll, List.append_nil, hk]
            simp only [List.length_nil, Nat.add_zero]
            exact nx_fiv_end k
        rw [nxe] at hq
        refine flat_run pw' p' (fun A B C a b e hB hy => ?_) q hq
        rcases ends with rfl | rfl
        · rw [List.nil_append] at e
          exact hn (h :: A) B C a b (by rw [List.nil_append, e]; rfl) hB hy
        · rw [List.append_nil] at e
          exact hn A B (C ++ [h]) a b (by rw [e]; simp) hB hy
/-! how far the codes are -/
def dst : List Int → List Int → Int
  | a :: as, b :: bs => (if a - b < 0 then -(a - b) else a - b) + dst as bs
  | _, _ => 0
theorem dst_self : ∀ l : List Int, dst l l = 0
  | [] => rfl
  | a :: l => by
    show (if a - a < 0 then -(a - a) else a - a) + dst l l = 0
    rw [dst_self l]
    simp
theorem dst_step : ∀ {S : List Int} {f g k : Int → Int} {x e : Int}, S.Nodup → x ∈ S → (e = 1 ∨ e = -1) → (∀ h, h ≠ x → g h = f h) → g x = f x + e → dst (S.map k) (S.map g) = dst (S.map k) (S.map f) + 1 ∨ dst (S.map k) (S.map g) = dst (S.map k) (S.map f) - 1
  | [], f, g, k, x, e, nd, hx, he, h1, h2 => by cases hx
  | s :: S, f, g, k, x, e, nd, hx, he, h1, h2 => by
    obtain ⟨n1, n2⟩ := List.nodup_cons.mp nd
    show (if k s - g s < 0 then -(k s - g s) else k s - g s) + dst (S.map k) (S.map g) = (if k s - f s < 0 then -(k s - f s) else k s - f s) + dst (S.map k) (S.map f) + 1 ∨ (if k s - g s < 0 then -(k s - g s) else k s - g s) + dst (S.map k) (S.map g) = (if k s - f s < 0 then -(k s - f s) else k s - f s) + dst (S.map k) (S.map f) - 1
    by_cases c : s = x
    · subst c
      have : S.map g = S.map f := List.map_congr_left fun h hh => h1 h fun z => n1 (z ▸ hh)
      rw [this, h2]
      split <;> split <;> omega
    · rw [h1 s c]
      have hx' : x ∈ S := (List.mem_cons.mp hx).resolve_left fun z => c z.symm
      rcases dst_step (k := k) n2 hx' he h1 h2 with z | z
      · left; omega
      · right; omega
end Ov

set_option Elab.async false
set_option linter.all false
set_option maxRecDepth 100000
set_option maxHeartbeats 4000000
namespace Ov
open PySem L2
def rowD (r : List Int) : PyData := .tuple (r.map .int)
theorem cutL_mid {α : Type} (l : List α) (a b : Nat) (h : a ≤ b) (h2 : b ≤ l.length) : cutL l (some (a : Int)) (some (b : Int)) = (l.drop a).take (b - a) := by
  unfold cutL
  have e : HT.sIx l.length 0 (some (a : Int)) = a := by simp [HT.sIx]; rw [if_neg (by omega)]; omega
  have e2 : HT.sIx l.length l.length (some (b : Int)) = b := by simp [HT.sIx]; rw [if_neg (by omega)]; omega
  rw [e, e2]
theorem row_at {ms : List Int} {k : Nat} {h : Int} (e : ms[k]? = some h) : atI (ms.map PyData.int) (k : Int) = some (.int h) := by
  have hk := lt_of_get e
  rw [atI_in (by omega) (by rw [List.length_map]; omega)]
  have : (ms.map PyData.int)[k]? = some (.int h) := by rw [List.getElem?_map, e]; rfl
  have hk2 : k < (ms.map PyData.int).length := by rw [List.length_map]; omega
  rw [List.getElem?_eq_getElem hk2] at this
  simp only [Int.toNat_natCast]
  exact this
def clr (ms : List Int) (l r : Nat) : Bool := ((ms.drop (l + 1)).take (r - (l + 1))).all fun y => decide (y < min (ms.getD l 0) (ms.getD r 0))
def ltP (m : Int) : PyData → Bool
  | .int i => decide (i < m)
  | _ => false
theorem all_lt (m : Int) (l : List Int) : allD [.list ((l.map PyData.int).map fun d => .bool (ltP m d))] = some (.bool (l.all fun y => decide (y < m))) := by
  have bo := bools_of (l.map PyData.int) (ltP m)
  have ai := all_id (l.map PyData.int) (ltP m)
  unfold allD
  simp only [seqD, Option.bind_some, bo, Option.map_some, ai]
  congr 2
  induction l with
  | nil => rfl
  | cons a r ih =>
    rw [List.map_cons, List.all_cons, List.all_cons, ih (bools_of _ _) (all_id _ _)]
    rfl
theorem min_if (a b : Int) : (if b < a then b else a) = min a b := by split <;> omega
theorem clear_ok {ms : List Int} {l r : Nat} (h1 : l < r) (h2 : r < ms.length) (h3 : ms.length ≤ 1000) : F_clear_between [rowD ms, .int (l : Int), .int (r : Int)] = some (.dat (.bool (clr ms l r))) := by
  have gl : ms[l]? = some (ms.getD l 0) := by rw [List.getD_eq_getElem?_getD, List.getElem?_eq_getElem (by omega)]; rfl
  have gr : ms[r]? = some (ms.getD r 0) := by rw [List.getD_eq_getElem?_getD, List.getElem?_eq_getElem h2]; rfl
  have al := row_at gl
  have ar := row_at gr
  have mn : minD [.int (ms.getD l 0), .int (ms.getD r 0)] = some (.int (min (ms.getD l 0) (ms.getD r 0))) := by rw [v_min, min_if]
  have cu : cutD (rowD ms) (some ((l : Int) + 1)) (some (r : Int)) = some (.tuple (((ms.drop (l + 1)).take (r - (l + 1))).map .int)) := by
    show some (PyData.tuple (cutL (ms.map PyData.int) (some ((l + 1 : Nat) : Int)) (some (r : Int)))) = _
    rw [cutL_mid _ _ _ (by omega) (by rw [List.length_map]; omega), List.map_take, List.map_drop]
  have sm : ((ms.drop (l + 1)).take (r - (l + 1))).length ≤ 1000 := by rw [List.length_take, List.length_drop]; omega
  have al2 := all_lt (min (ms.getD l 0) (ms.getD r 0)) ((ms.drop (l + 1)).take (r - (l + 1)))
  rw [show (((ms.drop (l + 1)).take (r - (l + 1))).all fun y => decide (y < min (ms.getD l 0) (ms.getD r 0))) = clr ms l r from rfl] at al2
  generalize (ms.drop (l + 1)).take (r - (l + 1)) = B at *
  generalize min (ms.getD l 0) (ms.getD r 0) = m at *
  generalize clr ms l r = cb' at *
  have e0 : s_clear_between_0 [some (.dat (rowD ms)), some (.dat (.int (l : Int))), some (.dat (.int (r : Int))), none, none] = some (.ok .nx [some (.dat (rowD ms)), some (.dat (.int (l : Int))), some (.dat (.int (r : Int))), some (.dat (.int m)), none]) :=
    set_ok (cb2_ok (op2_ok (get_ok rfl) (get_ok rfl) al) (op2_ok (get_ok rfl) (get_ok rfl) ar) mn) (by show 3 < 5; decide)
  have sq : seqI (slD (get 0) (poS (op2 addD (get 1) (con (.int 1)))) (poS (get 2))) [some (.dat (rowD ms)), some (.dat (.int (l : Int))), some (.dat (.int (r : Int))), some (.dat (.int m)), none] = some (.ok (B.map .int) [some (.dat (rowD ms)), some (.dat (.int (l : Int))), some (.dat (.int (r : Int))), some (.dat (.int m)), none]) :=
    seq_ok (sl_mid (get_ok rfl) (op2_ok (get_ok rfl) con_ok rfl) (get_ok rfl) cu) rfl
  have cm : compM (gN 4) yesT (op2 ltD (get 4) (get 3)) [4] (B.map .int) [] [some (.dat (rowD ms)), some (.dat (.int (l : Int))), some (.dat (.int (r : Int))), some (.dat (.int m)), none] = some (.ok ([] ++ (B.map PyData.int).map fun d => .bool (ltP m d)) [some (.dat (rowD ms)), some (.dat (.int (l : Int))), some (.dat (.int (r : Int))), some (.dat (.int m)), none]) := by
    refine comp_map _ _ _ (by rw [List.length_map]; show 0 + _ < _; omega) fun d hd => ?_
    obtain ⟨i, _, rfl⟩ := List.mem_map.mp hd
    exact ⟨[some (.dat (rowD ms)), some (.dat (.int (l : Int))), some (.dat (.int (r : Int))), some (.dat (.int m)), some (.dat (.int i))], rfl, rfl, op2_ok (get_ok rfl) (get_ok rfl) rfl, rfl, rfl⟩
  rw [List.nil_append] at cm
  have e1 : s_clear_between_1 [some (.dat (rowD ms)), some (.dat (.int (l : Int))), some (.dat (.int (r : Int))), some (.dat (.int m)), none] = some (.ok (.rt (.dat (.bool cb'))) [some (.dat (rowD ms)), some (.dat (.int (l : Int))), some (.dat (.int (r : Int))), some (.dat (.int m)), none]) :=
    ret_ok (cb1_ok (fz_ok (lc_eq sq rfl rfl cm)) al2)
  refine runA_eq rfl ⟨[some (.dat (rowD ms)), some (.dat (.int (l : Int))), some (.dat (.int (r : Int))), some (.dat (.int m)), none], ?_⟩
  show f_clear_between [some (.dat (rowD ms)), some (.dat (.int (l : Int))), some (.dat (.int (r : Int))), none, none] = _
  unfold f_clear_between
  rw [then_nx e0]
  exact e1
/-! sights and exchanges -/
def sg1 (ms : List Int) (l : Nat) : List Iv := ((rngL ((l : Int) + 1) ms.length).filter fun r => clr ms l r.toNat).map fun r => ((l : Int), r)
def sg (ms : List Int) : List Nat → List Iv
  | [] => []
  | l :: ls => sg1 ms l ++ sg ms ls
theorem rng2_ok {a n : Nat} (h : n ≤ 1000) (ha : a ≤ 1000) : rngD2 [.int ((a : Int) + 1), .int (n : Int)] = some ((rngL ((a : Int) + 1) n).map .int) := by
  have g : -(2 ^ 62) ≤ (a : Int) + 1 ∧ (a : Int) + 1 < 2 ^ 62 ∧ -(2 ^ 62) ≤ (n : Int) ∧ (n : Int) < 2 ^ 62 := ⟨by omega, by omega, by omega, by omega⟩
  generalize (n : Int) = N at g ⊢
  generalize (a : Int) + 1 = A at g ⊢
  exact if_pos g
def onI (t : Int → Bool) : PyData → Bool
  | .int i => t i
  | _ => false
theorem filt_mk (t : Int → Bool) (l : Int) (rs : List Int) : ((rs.map PyData.int).filter (onI t)).map (fun d => .tuple [.int l, d]) = ivD ((rs.filter t).map fun r => (l, r)) := by
  induction rs with
  | nil => rfl
  | cons a r ih =>
    rw [List.map_cons, List.filter_cons, List.filter_cons]
    show (if t a = true then _ else _ : List PyData).map _ = ivD ((if t a = true then _ else _ : List Int).map _)
    split
    · rw [List.map_cons, ih]; rfl
    · exact ih
theorem rng_in2 {a : Nat} {n : Nat} {k : Int} (h : k ∈ rngL ((a : Int) + 1) n) : ∃ j : Nat, k = j ∧ a < j ∧ j < n := by
  unfold rngL at h
  obtain ⟨j, hj, rfl⟩ := List.mem_map.mp h
  have := List.mem_range.mp hj
  exact ⟨a + 1 + j, by omega, by omega, by omega⟩
theorem rng_has2 {a n j : Nat} (h1 : a < j) (h2 : j < n) : (j : Int) ∈ rngL ((a : Int) + 1) n := by
  unfold rngL
  exact List.mem_map.mpr ⟨j - (a + 1), List.mem_range.mpr (by omega), by omega⟩
theorem sg_len1 (ms : List Int) (l : Nat) : (sg1 ms l).length ≤ ms.length := by
  unfold sg1
  rw [List.length_map]
  refine Nat.le_trans (List.length_filter_le _ _) ?_
  unfold rngL
  rw [List.length_map, List.length_range]
  omega
theorem sg_in {ms : List Int} {p : Iv} : ∀ {ls : List Nat}, p ∈ sg ms ls → ∃ l r : Nat, p = ((l : Int), (r : Int)) ∧ l ∈ ls ∧ l < r ∧ r < ms.length ∧ clr ms l r = true
  | [], h => by cases h
  | l :: ls, h => by
    rcases List.mem_append.mp h with h | h
    · obtain ⟨k, hk, rfl⟩ := List.mem_map.mp h
      obtain ⟨k1, k2⟩ := List.mem_filter.mp hk
      obtain ⟨j, rfl, j1, j2⟩ := rng_in2 k1
      rw [Int.toNat_natCast] at k2
      exact ⟨l, j, rfl, List.mem_cons_self .., j1, j2, k2⟩
    · obtain ⟨l', r, e, m, k⟩ := sg_in h
      exact ⟨l', r, e, List.mem_cons_of_mem _ m, k⟩
theorem sg_has {ms : List Int} {l r : Nat} (h1 : l < r) (h2 : r < ms.length) (h3 : clr ms l r = true) : ∀ {ls : List Nat}, l ∈ ls → ((l : Int), (r : Int)) ∈ sg ms ls
  | [], h => by cases h
  | k :: ls, h => by
    rcases List.mem_cons.mp h with rfl | h
    · exact List.mem_append_left _ (List.mem_map.mpr ⟨(r : Int), List.mem_filter.mpr ⟨rng_has2 h1 h2, by rw [Int.toNat_natCast]; exact h3⟩, rfl⟩)
    · exact List.mem_append_right _ (sg_has h1 h2 h3 h)
theorem sights_comp {ms : List Int} (hn : ms.length ≤ 30) : ∀ (ls : List Nat) {acc : List PyData}, (∀ l ∈ ls, l < ms.length) → acc.length + 30 * ls.length ≤ 1000 →
    comp2M (gN 2) yesT (argI rngD2 (acons (op2 addD (get 2) (con (.int 1))) (acons (get 1) anil))) (gN 3) (tb1 (fz (callA F_clear_between (acons (get 0) (acons (get 2) (acons (get 3) anil)))))) (tupD (acons (get 2) (acons (get 3) anil))) [2, 3] [3] (ls.map fun l : Nat => .int (l : Int)) acc [some (.dat (rowD ms)), some (.dat (.int (ms.length : Int))), none, none] =
      some (.ok (acc ++ ivD (sg ms ls)) [some (.dat (rowD ms)), some (.dat (.int (ms.length : Int))), none, none])
  | [], acc, _, _ => by
    show some _ = some _
    rw [show ivD (sg ms []) = [] from rfl, List.append_nil]
  | l :: ls, acc, hl, ha => by
    rw [List.length_cons] at ha
    have h0 := hl l (List.mem_cons_self ..)
    have cm : compM (gN 3) (tb1 (fz (callA F_clear_between (acons (get 0) (acons (get 2) (acons (get 3) anil)))))) (tupD (acons (get 2) (acons (get 3) anil))) [3] ((rngL ((l : Int) + 1) ms.length).map .int) acc [some (.dat (rowD ms)), some (.dat (.int (ms.length : Int))), some (.dat (.int (l : Int))), none] = some (.ok (acc ++ (((rngL ((l : Int) + 1) ms.length).map PyData.int).filter (onI fun r => clr ms l r.toNat)).map fun d => .tuple [.int (l : Int), d]) [some (.dat (rowD ms)), some (.dat (.int (ms.length : Int))), some (.dat (.int (l : Int))), none]) := by
      refine comp_all _ _ _ _ (by rw [rng_len]; omega) fun d hd => ?_
      obtain ⟨k, hk, rfl⟩ := List.mem_map.mp hd
      obtain ⟨j, rfl, j1, j2⟩ := rng_in2 hk
      have ck := clear_ok j1 j2 (by omega)
      refine ⟨[some (.dat (rowD ms)), some (.dat (.int (ms.length : Int))), some (.dat (.int (l : Int))), some (.dat (.int (j : Int)))], rfl, ?_, fun _ => tup2_ok (get_ok rfl) (get_ok rfl), rfl, rfl⟩
      show _ = some (Rs.ok (clr ms l (Int.toNat (j : Int))) _)
      rw [Int.toNat_natCast]
      exact tb_ok (call3 (get_ok rfl) (get_ok rfl) (get_ok rfl) ck)
    rw [filt_mk] at cm
    have s1 := sg_len1 ms l
    have ih := sights_comp hn ls (acc := acc ++ ivD (sg1 ms l)) (fun x hx => hl x (List.mem_cons_of_mem _ hx)) (by rw [List.length_append, iv_len]; omega)
    rw [List.map_cons, comp2_go (e := [some (.dat (rowD ms)), some (.dat (.int (ms.length : Int))), some (.dat (.int (l : Int))), none]) (e2 := [some (.dat (rowD ms)), some (.dat (.int (ms.length : Int))), some (.dat (.int (l : Int))), none]) (e3 := [some (.dat (rowD ms)), some (.dat (.int (ms.length : Int))), some (.dat (.int (l : Int))), none]) rfl rfl (it2_ok (op2_ok (get_ok rfl) con_ok rfl) (get_ok rfl) (rng2_ok (by omega) (by omega))) rfl cm rfl]
    refine ih.trans ?_
    rw [List.append_assoc]
    show some (Rs.ok (acc ++ (ivD (sg1 ms l) ++ ivD (sg ms ls))) _) = some (Rs.ok (acc ++ ivD (sg1 ms l ++ sg ms ls)) _)
    unfold ivD
    rw [List.map_append]
theorem sights_ok {ms : List Int} (hn : ms.length ≤ 30) : F_sights [rowD ms] = some (.dat (.list (ivD (sg ms (List.range ms.length))))) := by
  have e0 : s_sights_0 [some (.dat (rowD ms)), none, none, none] = some (.ok .nx [some (.dat (rowD ms)), some (.dat (.int (ms.length : Int))), none, none]) := set_ok (cb1_ok (get_ok rfl) (len_sq (.inr rfl))) (by show 1 < 4; decide)
  have rg : argI rngD (acons (get 1) anil) [some (.dat (rowD ms)), some (.dat (.int (ms.length : Int))), none, none] = some (.ok ((List.range ms.length).map fun l : Nat => .int (l : Int)) [some (.dat (rowD ms)), some (.dat (.int (ms.length : Int))), none, none]) := by
    refine it1_ok (get_ok rfl) ?_
    rw [rngD_ok (by omega), rng_nat, List.map_map]
    rfl
  have cm := sights_comp hn (List.range ms.length) (acc := []) (fun l hl => List.mem_range.mp hl) (by rw [List.length_range]; show 0 + _ ≤ _; omega)
  rw [List.nil_append] at cm
  have e1 : s_sights_1 [some (.dat (rowD ms)), some (.dat (.int (ms.length : Int))), none, none] = some (.ok (.rt (.dat (.list (ivD (sg ms (List.range ms.length)))))) [some (.dat (rowD ms)), some (.dat (.int (ms.length : Int))), none, none]) := ret_ok (fz_ok (lc2_eq rg rfl rfl cm))
  refine runA_eq rfl ⟨[some (.dat (rowD ms)), some (.dat (.int (ms.length : Int))), none, none], ?_⟩
  show f_sights [some (.dat (rowD ms)), none, none, none] = _
  unfold f_sights
  rw [then_nx e0]
  exact e1
def farP (p : Iv) : Bool := decide (p.1 < p.2 - 1)
def farD : PyData → Bool
  | .tuple [.int a, .int b] => decide (a < b - 1)
  | _ => false
def xcs (ms : List Int) : List Iv := (sg ms (List.range ms.length)).filter farP
theorem filt_far (l : List Iv) : ((ivD l).filter farD).map id = ivD (l.filter farP) := by
  rw [List.map_id]
  unfold ivD
  rw [List.filter_map]
  rfl
theorem sg_len (ms : List Int) : ∀ ls : List Nat, (sg ms ls).length ≤ ls.length * ms.length
  | [] => by show 0 ≤ _; omega
  | l :: ls => by
    have h1 := sg_len1 ms l
    have h2 := sg_len ms ls
    show (sg1 ms l ++ sg ms ls).length ≤ (ls.length + 1) * ms.length
    rw [List.length_append, Nat.add_mul]
    omega
theorem exchanges_ok {ms : List Int} (hn : ms.length ≤ 30) : F_exchanges [rowD ms] = some (.dat (.list (ivD (xcs ms)))) := by
  have so := sights_ok hn
  have sl := sg_len ms (List.range ms.length)
  rw [List.length_range] at sl
  have sm : ms.length * ms.length ≤ 900 := Nat.mul_le_mul hn hn
  have ff := filt_far (sg ms (List.range ms.length))
  rw [show (sg ms (List.range ms.length)).filter farP = xcs ms from rfl] at ff
  generalize xcs ms = XX at *
  generalize sg ms (List.range ms.length) = L at *
  have cm : compM (gT (gsC (gN 1) (gsC (gN 2) gsN))) (tb1 (op2 ltD (get 1) (op2 subD (get 2) (con (.int 1))))) (tupD (acons (get 1) (acons (get 2) anil))) [1, 2] (ivD L) [] [some (.dat (rowD ms)), none, none] = some (.ok ([] ++ ((ivD L).filter farD).map id) [some (.dat (rowD ms)), none, none]) := by
    refine comp_all _ _ _ _ (by rw [iv_len]; show 0 + _ < _; omega) fun d hd => ?_
    obtain ⟨p, _, rfl⟩ := List.mem_map.mp hd
    exact ⟨[some (.dat (rowD ms)), some (.dat (.int p.1)), some (.dat (.int p.2))], rfl, tb_ok (op2_ok (get_ok rfl) (op2_ok (get_ok rfl) con_ok rfl) rfl), fun _ => tup2_ok (get_ok rfl) (get_ok rfl), rfl, rfl⟩
  rw [List.nil_append, ff] at cm
  have e1 : f_exchanges [some (.dat (rowD ms)), none, none] = some (.ok (.rt (.dat (.list (ivD XX)))) [some (.dat (rowD ms)), none, none]) := ret_ok (fz_ok (lc_eq (seq_ok (call1 (get_ok rfl) so) rfl) rfl rfl cm))
  exact runA_eq rfl ⟨_, e1⟩
/-! what an exchange is -/
theorem clr_iff {A B C : List Int} {a b : Int} : clr (A ++ a :: (B ++ b :: C)) A.length (A.length + 1 + B.length) = true ↔ ∀ y ∈ B, y < a ∧ y < b := by
  have g1 : (A ++ a :: (B ++ b :: C)).getD A.length 0 = a := by rw [List.getD_eq_getElem?_getD, List.getElem?_append_right (Nat.le_refl _), Nat.sub_self]; rfl
  have g2 : (A ++ a :: (B ++ b :: C)).getD (A.length + 1 + B.length) 0 = b := by
    rw [List.getD_eq_getElem?_getD, List.getElem?_append_right (by omega), show A.length + 1 + B.length - A.length = B.length + 1 by omega, List.getElem?_cons_succ, List.getElem?_append_right (Nat.le_refl _), Nat.sub_self]
    rfl
  have g3 : ((A ++ a :: (B ++ b :: C)).drop (A.length + 1)).take (A.length + 1 + B.length - (A.length + 1)) = B := by
    have : A ++ a :: (B ++ b :: C) = (A ++ [a]) ++ (B ++ b :: C) := by simp
    rw [this, show A.length + 1 = (A ++ [a]).length by simp, List.drop_left, show (A ++ [a]).length + B.length - (A ++ [a]).length = B.length by omega, List.take_left]
  unfold clr
  rw [g1, g2, g3, List.all_eq_true]
  constructor
  · intro h y hy
    have := of_decide_eq_true (h y hy)
    omega
  · intro h y hy
    have := h y hy
    exact decide_eq_true (by omega)
theorem split_at {ms : List Int} {l r : Nat} (h1 : l < r) (h2 : r < ms.length) : ∃ A a B b C, ms = A ++ a :: (B ++ b :: C) ∧ l = A.length ∧ r = A.length + 1 + B.length := by
  refine ⟨ms.take l, ms[l], (ms.drop (l + 1)).take (r - (l + 1)), ms[r], ms.drop (r + 1), ?_, by rw [List.length_take]; omega, by rw [List.length_take, List.length_take, List.length_drop]; omega⟩
  have e1 : ms = ms.take l ++ ms.drop l := (List.take_append_drop l ms).symm
  have e2 : ms.drop l = ms[l] :: ms.drop (l + 1) := List.drop_eq_getElem_cons (by omega)
  have e3 : ms.drop (l + 1) = (ms.drop (l + 1)).take (r - (l + 1)) ++ (ms.drop (l + 1)).drop (r - (l + 1)) := (List.take_append_drop _ _).symm
  have e4 : (ms.drop (l + 1)).drop (r - (l + 1)) = ms[r] :: ms.drop (r + 1) := by
    rw [List.drop_drop, show l + 1 + (r - (l + 1)) = r by omega]
    exact List.drop_eq_getElem_cons h2
  rw [e4] at e3
  rw [← e3, ← e2]
  exact e1
theorem xcs_in {ms : List Int} {p : Iv} (h : p ∈ xcs ms) : ∃ A a B b C, ms = A ++ a :: (B ++ b :: C) ∧ B ≠ [] ∧ (∀ y ∈ B, y < a ∧ y < b) ∧ p = ((A.length : Int), ((A.length + 1 + B.length : Nat) : Int)) := by
  obtain ⟨m1, m2⟩ := List.mem_filter.mp h
  obtain ⟨l, r, rfl, _, k1, k2, k3⟩ := sg_in m1
  obtain ⟨A, a, B, b, C, rfl, rfl, rfl⟩ := split_at k1 k2
  refine ⟨A, a, B, b, C, rfl, fun z => ?_, clr_iff.mp k3, rfl⟩
  subst z
  have := of_decide_eq_true m2
  simp at this
theorem xcs_has {A B C : List Int} {a b : Int} (hB : B ≠ []) (hb : ∀ y ∈ B, y < a ∧ y < b) : ((A.length : Int), ((A.length + 1 + B.length : Nat) : Int)) ∈ xcs (A ++ a :: (B ++ b :: C)) := by
  have lB : B.length ≠ 0 := fun z => hB (List.length_eq_zero_iff.mp z)
  refine List.mem_filter.mpr ⟨sg_has (by omega) (by rw [List.length_append, List.length_cons, List.length_append, List.length_cons]; omega) (clr_iff.mpr hb) (List.mem_range.mpr (by rw [List.length_append, List.length_cons]; omega)), decide_eq_true ?_⟩
  show (A.length : Int) < ((A.length + 1 + B.length : Nat) : Int) - 1
  omega
theorem xcs_nil {ms : List Int} (h : xcs ms = []) : noX ms := fun A B C a b e hB hb => by
  subst e
  have := xcs_has (A := A) (C := C) hB hb
  rw [h] at this
  cases this
end Ov

set_option Elab.async false
set_option linter.all false
set_option maxRecDepth 100000
set_option maxHeartbeats 4000000
namespace Ov
open PySem L2
section
variable {A B C : List Int} {a b : Int}
theorem at_l : (A ++ a :: (B ++ b :: C))[A.length]? = some a := by rw [List.getElem?_append_right (Nat.le_refl _), Nat.sub_self]; rfl
theorem at_r : (A ++ a :: (B ++ b :: C))[A.length + 1 + B.length]? = some b := by
  rw [List.getElem?_append_right (by omega), show A.length + 1 + B.length - A.length = B.length + 1 by omega, List.getElem?_cons_succ, List.getElem?_append_right (Nat.le_refl _), Nat.sub_self]
  rfl
theorem len_x : (A ++ a :: (B ++ b :: C)).length = A.length + B.length + C.length + 2 := by rw [List.length_append, List.length_cons, List.length_append, List.length_cons]; omega
theorem put_ok {env : En} {i : Nat} {d : PyData} {f : M R} {M : List PyData} {k : Int} {j : Nat} (e : env[i]? = some (some (.own (dats M)))) (h1 : Gv f env (.int k)) (hk : ixN M.length k = some j) : putIx i d f env = some (.ok () (env.set i (some (.own (dats (M.set j d)))))) := by
  unfold Gv at h1
  have o : ownD i env = some (.ok M env) := by simp [v_bind, v_ok, v_none, v_pure, v_lift, v_liftN, v_con, v_get, v_gkd, v_gko, v_gkc, v_vwd, v_vws, v_ok1, v_ownD, v_dctD, v_dk1, v_setOwn, v_putM, v_op2, v_op1, v_anil, v_acons, v_vws0, v_vwsC, v_cb, v_tupD, v_lstD, v_lstW, v_listW, v_dds0, v_ddsC, v_asB, v_tb1, v_andT, v_orT, v_notT, v_andV, v_orV, v_notV, v_ofB, v_ifE, v_pl, v_toW, v_fz, v_ofWd, v_ofWo, v_nxt, v_thenS, v_exprS, v_retS, v_retN, v_ifS, v_setS, v_parS, v_setIx, v_asD, v_asI, v_mthE, v_callA, v_callB, v_forS, v_argI, v_seqI, v_slD, v_poN, v_poS, v_isiE, v_isiE2, v_isNE, v_dnew, v_dinT, v_dputS, v_sortDct, v_rgE, v_rg2, v_unS, v_catW, v_chainE, v_add, v_sub, v_lt, v_le, v_gt, v_ge, v_eqI, v_eqB, v_eqS, v_ixL, v_ixT, v_lenL, v_lenT, v_abs, v_intI, v_intB, v_min, v_max, v_chk, e]
  unfold putIx
  rw [v_bind, o, v_ok, v_bind, h1, v_ok, v_bind, v_asI, v_lift, v_ok, v_bind, o, v_ok, v_bind, hk, v_lift, v_ok]
  exact v_setOwn i (M.set j d)
theorem ixN_nat {n k : Nat} (h : k < n) : ixN n (k : Int) = some k := by
  unfold ixN
  simp
  omega
end
/-! count, steps -/
theorem size_ok (p : Iv) : F_run_size [pD p] = some (.dat (.int (p.2 - p.1 + 1))) := by
  have e0 : s_run_size_0 [some (.dat (pD p)), none, none] = some (.ok .nx [some (.dat (pD p)), some (.dat (.int p.1)), some (.dat (.int p.2))]) := un_ok (get_ok rfl) rfl
  refine runA_eq rfl ⟨[some (.dat (pD p)), some (.dat (.int p.1)), some (.dat (.int p.2))], ?_⟩
  show f_run_size [some (.dat (pD p)), none, none] = _
  unfold f_run_size
  rw [then_nx e0]
  exact ret_ok (op2_ok (op2_ok (get_ok rfl) (get_ok rfl) rfl) con_ok rfl)
def prod : Int → List Iv → Int
  | t, [] => t
  | t, p :: r => prod (t * (p.2 - p.1 + 1)) r
theorem count_for {d : PyData} : ∀ (l : List Iv) {t : Int} {w2 : Option Wv}, (∀ p ∈ l, p.1 ≤ p.2 ∧ p.2 - p.1 ≤ 1000) → ∃ u2, forM (gN 2) b_count_rows_1 (ivD l) [some (.dat d), some (.dat (.int t)), w2] = some (.ok .nx [some (.dat d), some (.dat (.int (prod t l))), u2])
  | [], t, w2, _ => ⟨w2, for_nil⟩
  | p :: l, t, w2, h => by
    obtain ⟨u2, e⟩ := count_for (d := d) l (t := t * (p.2 - p.1 + 1)) (w2 := some (.dat (pD p))) fun x hx => h x (List.mem_cons_of_mem _ hx)
    have h0 := h p (List.mem_cons_self ..)
    have pm : pMul t (p.2 - p.1 + 1) = true := pMul_r (by omega) (by omega)
    have st : b_count_rows_1 [some (.dat d), some (.dat (.int t)), some (.dat (pD p))] = some (.ok .nx [some (.dat d), some (.dat (.int (t * (p.2 - p.1 + 1)))), some (.dat (pD p))]) := aug_ok rfl (call1 (get_ok rfl) (size_ok p)) (v_mulD _ _ pm) (by show 1 < 3; decide)
    exact ⟨u2, (for_go (e := [some (.dat d), some (.dat (.int t)), some (.dat (pD p))]) rfl st).trans e⟩
theorem rns_sm {ms : List Int} (nd : ms.Nodup) (hl : ms.length ≤ 16) : ∀ p ∈ RNS ms, p.1 ≤ p.2 ∧ p.2 - p.1 ≤ 1000 := fun p hp => by
  obtain ⟨j, hj, e⟩ := List.getElem_of_mem hp
  have hj' : j < (mks ms).length := by rw [mks_len, ← RNS_len]; exact hj
  have := rns_ok (fiv_pt ms.length) (by rw [mks_len]) (vd_row nd) j p ((mks ms)[j]'hj') (by rw [← e]; exact List.getElem?_eq_getElem hj) (List.getElem?_eq_getElem hj')
  omega
theorem count_ok {ms : List Int} (nd : ms.Nodup) (hl : ms.length ≤ 16) : F_count_rows [rowD ms] = some (.dat (.int (prod 1 (RNS ms)))) := by
  have ru := runs_ok (d := rowD ms) (.inr rfl) (by omega) nd
  obtain ⟨u2, e⟩ := count_for (d := rowD ms) (RNS ms) (t := 1) (w2 := none) (rns_sm nd hl)
  generalize ivD (RNS ms) = R at *
  have e0 : s_count_rows_0 [some (.dat (rowD ms)), none, none] = some (.ok .nx [some (.dat (rowD ms)), some (.dat (.int 1)), none]) := set_ok con_ok (by show 1 < 3; decide)
  have e1 : s_count_rows_1 [some (.dat (rowD ms)), some (.dat (.int 1)), none] = some (.ok .nx [some (.dat (rowD ms)), some (.dat (.int (prod 1 (RNS ms)))), u2]) := for_ok (seq_ok (call1 (get_ok rfl) ru) rfl) e
  refine runA_eq rfl ⟨[some (.dat (rowD ms)), some (.dat (.int (prod 1 (RNS ms)))), u2], ?_⟩
  show f_count_rows [some (.dat (rowD ms)), none, none] = _
  unfold f_count_rows
  rw [then_nx e0, then_nx e1]
  exact ret_ok (get_ok rfl)
def tr3 : List Int → List Int → List Int → List PyData
  | h :: S, a :: as, b :: bs => if a = b then tr3 S as bs else .tuple [.int h, .int a, .int b] :: tr3 S as bs
  | _, _, _ => []
theorem diff_comp {env0 : En} {i : Nat} (p : PyData → En → Option En) (ft : M Bool) (fe : M R) (vs : List Nat) (hp : ∀ h a b : Int, ∃ e, p (.tuple [.int h, .int a, .int b]) env0 = some e ∧ ft e = some (.ok (!decide (a = b)) e) ∧ fe e = some (.ok (.dat (.tuple [.int h, .int a, .int b])) e) ∧ freeB e vs = true ∧ wipeE e vs = env0) :
    ∀ (S as bs : List Int) {acc : List PyData}, acc.length + S.length ≤ 1000 → compM p ft fe vs (tripUp (S.map .int) (as.map .int) (bs.map .int)) acc env0 = some (.ok (acc ++ tr3 S as bs) env0)
  | [], as, bs, acc, _ => by show some _ = some _; rw [show tr3 [] as bs = [] from by unfold tr3; rfl, List.append_nil]
  | h :: S, [], bs, acc, _ => by show some _ = some _; rw [show tr3 (h :: S) [] bs = [] from by unfold tr3; rfl, List.append_nil]
  | h :: S, a :: as, [], acc, _ => by show some _ = some _; rw [show tr3 (h :: S) (a :: as) [] = [] from by unfold tr3; rfl, List.append_nil]
  | h :: S, a :: as, b :: bs, acc, hl => by
    rw [List.length_cons] at hl
    obtain ⟨e, h1, h2, h3, h4, h5⟩ := hp h a b
    show compM p ft fe vs (.tuple [.int h, .int a, .int b] :: tripUp (S.map .int) (as.map .int) (bs.map .int)) acc env0 = some (.ok (acc ++ if a = b then tr3 S as bs else .tuple [.int h, .int a, .int b] :: tr3 S as bs) env0)
    by_cases c : a = b
    · rw [decide_eq_true c] at h2
      rw [if_pos c, comp_no h1 h2 h4, h5]
      exact diff_comp (i := i) p ft fe vs hp S as bs (by omega)
    · rw [decide_eq_false c] at h2
      rw [if_neg c, comp_yes h1 h2 h3 h4 (by omega), h5]
      refine (diff_comp (i := i) p ft fe vs hp S as bs (by rw [List.length_append]; show acc.length + 1 + _ ≤ _; omega)).trans ?_
      rw [List.append_assoc]
      rfl
theorem neA (a b : Int) : eqA true (.int a) (.int b) = some (.bool (!decide (a = b))) := by rw [v_eqI, Bool.true_xor]
def absI (i : Int) : Int := if i < 0 then -i else i
def gap3 : PyData → Int
  | .tuple [_, .int a, .int b] => absI (a - b)
  | _ => 0
theorem tr3_in : ∀ {S as bs : List Int} {d : PyData}, d ∈ tr3 S as bs → ∃ h a b : Int, d = .tuple [.int h, .int a, .int b]
  | [], as, bs, d, h => by unfold tr3 at h; cases h
  | s :: S, [], bs, d, h => by unfold tr3 at h; cases h
  | s :: S, a :: as, [], d, h => by unfold tr3 at h; cases h
  | s :: S, a :: as, b :: bs, d, h => by
    unfold tr3 at h
    split at h
    · exact tr3_in h
    · rcases List.mem_cons.mp h with rfl | h
      · exact ⟨_, _, _, rfl⟩
      · exact tr3_in h
theorem tr3_sum : ∀ {S as bs : List Int}, as.length = S.length → bs.length = S.length → ((tr3 S as bs).map gap3).sum = dst as bs
  | [], as, bs, h1, h2 => by
    have : as = [] := List.length_eq_zero_iff.mp h1
    subst this
    unfold tr3 dst
    rfl
  | s :: S, [], bs, h1, h2 => by cases h1
  | s :: S, a :: as, [], h1, h2 => by cases h2
  | s :: S, a :: as, b :: bs, h1, h2 => by
    have ih := tr3_sum (S := S) (as := as) (bs := bs) (by simpa using h1) (by simpa using h2)
    show ((if a = b then tr3 S as bs else .tuple [.int s, .int a, .int b] :: tr3 S as bs : List PyData).map gap3).sum = (if a - b < 0 then -(a - b) else a - b) + dst as bs
    by_cases c : a = b
    · rw [if_pos c, ih, c]
      simp
    · rw [if_neg c, List.map_cons, List.sum_cons, ih]
      rfl
theorem tr3_len : ∀ {S as bs : List Int}, (tr3 S as bs).length ≤ S.length
  | [], as, bs => by unfold tr3; exact Nat.le_refl _
  | s :: S, [], bs => by unfold tr3; exact Nat.zero_le _
  | s :: S, a :: as, [] => by unfold tr3; exact Nat.zero_le _
  | s :: S, a :: as, b :: bs => by
    have := tr3_len (S := S) (as := as) (bs := bs)
    unfold tr3
    split
    · rw [List.length_cons]; omega
    · rw [List.length_cons, List.length_cons]; omega
theorem sum_ints (l : List Int) : sumD [.list (l.map .int)] = some (.int l.sum) := by
  unfold sumD
  simp [intsD_map]
end Ov

set_option linter.all false
set_option maxRecDepth 100000
set_option maxHeartbeats 4000000
namespace Ov
/-! valleys, hills and teeth: their runs -/
theorem pt_lo : ∀ {iv : List Iv} {s e : Int} {i : Nat} {p : Iv}, Pt s e iv → iv[i]? = some p → s + i ≤ p.1
  | [], s, e, i, p, h, k => by simp at k
  | x :: r, s, e, 0, p, h, k => by
    have : x = p := by simpa using k
    subst this
    have := h.1
    simp; omega
  | x :: r, s, e, i + 1, p, h, k => by
    have := pt_lo h.2.2 (i := i) (p := p) (by simpa using k)
    have := h.1; have := h.2.1
    rw [show ((i + 1 : Nat) : Int) = (i : Int) + 1 by rfl]
    omega
theorem pt_len : ∀ {iv : List Iv} {s e : Int}, Pt s e iv → s + iv.length ≤ e
  | [], s, e, h => by have : s = e := h; simp; omega
  | x :: r, s, e, h => by
    have := pt_len h.2.2
    have := h.1; have := h.2.1
    rw [List.length_cons, show ((r.length + 1 : Nat) : Int) = (r.length : Int) + 1 by rfl]
    omega
theorem pt_hi : ∀ {iv : List Iv} {s e : Int} {i : Nat} {p : Iv}, Pt s e iv → iv[i]? = some p → p.2 + iv.length ≤ e + i
  | [], s, e, i, p, h, k => by simp at k
  | x :: r, s, e, 0, p, h, k => by
    have : x = p := by simpa using k
    subst this
    have := pt_len h.2.2
    rw [List.length_cons, show ((r.length + 1 : Nat) : Int) = (r.length : Int) + 1 by rfl]
    simp; omega
  | x :: r, s, e, i + 1, p, h, k => by
    have := pt_hi h.2.2 (i := i) (p := p) (by simpa using k)
    rw [List.length_cons, show ((r.length + 1 : Nat) : Int) = (r.length : Int) + 1 by rfl, show ((i + 1 : Nat) : Int) = (i : Int) + 1 by rfl]
    omega
theorem nx_len_eq {iv : List Iv} {a : Nat} (h : a < iv.length) : (nx iv a).length = lf a + 1 + (iv.length - (rg iv a + 1)) := by
  unfold nx
  simp only [List.length_append, List.length_take, List.length_map, List.length_drop, List.length_singleton]
  unfold lf rg
  omega
theorem vs_step {iv : List Iv} {m f l : Nat} (hp : Pt 0 m iv) (hf : iv[f]? = some ((f : Int), (l : Int))) (hl : iv.length + l = m + f) (hm : 2 ≤ m) :
    Pt 0 ((m - 1 : Nat) : Int) (nx iv f) ∧ (nx iv f)[f - 1]? = some (((f - 1 : Nat) : Int), ((min l (m - 2) : Nat) : Int)) ∧ (nx iv f).length + min l (m - 2) = (m - 1) + (f - 1) := by
  have lt := lt_of_get hf
  obtain ⟨pl, pr, g1, g2, n1, _, _⟩ := nx_parts hp hf
  have le := pt_get hp hf
  have lm : l < m := by have := le.2.2; simp at this; omega
  have fl : f ≤ l := by have := le.2.1; simp at this; omega
  have p1 : pl.1 = ((f - 1 : Nat) : Int) := by
    by_cases z : f = 0
    · subst z
      have : lf 0 = 0 := rfl
      rw [this] at g1
      have := pt_first hp g1
      rw [this]; rfl
    · have e : lf f + 1 = f := by unfold lf; omega
      have a1 := pt_adj hp g1 (by rw [e]; exact hf)
      have a2 := pt_lo hp g1
      have a3 := pt_get hp g1
      have : lf f = f - 1 := rfl
      rw [this] at a2
      have a1 : (f : Int) = pl.2 + 1 := a1
      omega
  have p2 : pr.2 - 1 = ((min l (m - 2) : Nat) : Int) := by
    by_cases z : f + 1 < iv.length
    · have e : rg iv f = f + 1 := by unfold rg; omega
      rw [e] at g2
      have a1 := pt_adj hp hf g2
      have a2 := pt_hi hp g2
      have a3 := pt_get hp g2
      have a1 : pr.1 = (l : Int) + 1 := a1
      omega
    · have e : rg iv f = f := by unfold rg; omega
      rw [e, hf] at g2
      cases g2
      show (l : Int) - 1 = _
      omega
  refine ⟨?_, ?_, ?_⟩
  · have := nx_pt hp (a := f) (by omega) lt
    rw [show ((m - 1 : Nat) : Int) = (m : Int) - 1 by omega]
    exact this
  · have : lf f = f - 1 := rfl
    rw [this, p1, p2] at n1
    exact n1
  · rw [nx_len_eq lt]
    unfold lf rg
    omega
def vdue : Nat → Int → Int → List Iv
  | 0, _, _ => []
  | n + 1, f, l => (f, l) :: vdue n (max 0 (f - 1)) (min l ((n : Int) - 1))
theorem vs_run : ∀ {n : Nat} {cs : List Int} {iv : List Iv} {f l : Nat}, cs.length = n → (n ≠ 0 → Pt 0 n iv ∧ iv[f]? = some ((f : Int), (l : Int)) ∧ iv.length + l = n + f) → (∀ (k : Nat) (c : Int), cs[k]? = some c → ((f - k : Nat) : Int) ≤ c ∧ c ≤ l ∧ c + k < n) →
    rns iv cs = vdue n f l
  | 0, cs, iv, f, l, hl, _, _ => by rw [List.length_eq_zero_iff.mp hl]; rfl
  | n + 1, [], iv, f, l, hl, _, _ => by simp at hl
  | n + 1, c :: cs, iv, f, l, hl, h, hc => by
    obtain ⟨hp, hf, hi⟩ := h (by omega)
    have c0 := hc 0 c rfl
    have ri : rix iv c = f := rix_in hp hf (by have := c0.1; simpa using this) c0.2.1
    have hl : cs.length = n := by simpa using hl
    rw [rns_cons (by rw [ri]; exact hf), ri]
    show _ = ((f : Int), (l : Int)) :: _
    congr 1
    by_cases z : n = 0
    · subst z
      rw [List.length_eq_zero_iff.mp hl]; rfl
    · obtain ⟨s1, s2, s3⟩ := vs_step hp hf hi (by omega)
      have := vs_run (n := n) (cs := cs) (iv := nx iv f) (f := f - 1) (l := min l (n - 1)) hl (fun _ => ⟨s1, s2, s3⟩) fun k c hk => by
        have := hc (k + 1) c (by simpa using hk)
        refine ⟨?_, ?_, ?_⟩
        · have := this.1
          rw [show f - 1 - k = f - (k + 1) by omega]
          exact this
        · omega
        · omega
      rw [this]
      congr 1
      · omega
      · omega
theorem fiv_vs {n a : Nat} (h : a < n) : (fiv n)[a]? = some ((a : Int), (a : Int)) ∧ (fiv n).length + a = n + a := ⟨fiv_get h, by rw [fiv_len]⟩
/-! the codes of a valley -/
theorem mk_at {P Q : List Int} {x : Int} (n : x ∉ P) : mk (P ++ x :: Q) x = ((fh x P).length : Nat) := by
  have nn : x ∉ fh x P := fun z => n (List.mem_filter.mp z).1
  rw [mk_fh, fh_app, fh_yes (Int.le_refl _), idx_mid nn]
theorem cnt_le : ∀ {S : List Int} {k : Nat} {x : Int}, S.Pairwise (· < ·) → S[k]? = some x → S.countP (fun y => decide (y ≤ x)) = k + 1
  | [], k, x, _, h => by simp at h
  | y :: S, 0, x, pw, h => by
    have : y = x := by simpa using h
    subst this
    have lo := (List.pairwise_cons.mp pw).1
    rw [List.countP_cons, List.countP_eq_zero.mpr fun z hz => by have := lo z hz; simp; omega]
    simp
  | y :: S, k + 1, x, pw, h => by
    obtain ⟨lo, pw'⟩ := List.pairwise_cons.mp pw
    have h : S[k]? = some x := by simpa using h
    have := lo x (List.mem_of_getElem? h)
    rw [List.countP_cons, cnt_le pw' h]
    simp; omega
theorem fh_cnt (x : Int) (l : List Int) : (fh x l).length + l.countP (fun y => decide (y < x)) = l.length := by
  induction l with
  | nil => rfl
  | cons a r ih =>
    by_cases c : x ≤ a
    · rw [fh_yes c, List.countP_cons, List.length_cons, List.length_cons]; simp [show ¬ a < x by omega]; omega
    · rw [fh_no (by omega), List.countP_cons, List.length_cons]; simp [show a < x by omega]; omega
theorem cnt_mono {x : Int} (l : List Int) : l.countP (fun y => decide (y < x)) ≤ l.countP (fun y => decide (y ≤ x)) :=
  List.countP_mono_left fun y _ h => by simp at h ⊢; omega
theorem valley_mk {L R t : List Int} {h : Int} {k : Nat} {x : Int} (pw : (h :: t).Pairwise (· < ·)) (sl : L.Sublist t) (sr : R.Sublist t) (pm : (L ++ R).Perm t) (hx : (h :: t)[k]? = some x) :
    (L.length : Int) ≤ mk (L.reverse ++ h :: R) x + k ∧ mk (L.reverse ++ h :: R) x ≤ L.length := by
  obtain ⟨lo, pt⟩ := List.pairwise_cons.mp pw
  have pl : L.Pairwise (· < ·) := pt.sublist sl
  have pr : R.Pairwise (· < ·) := pt.sublist sr
  have pm2 : (L.reverse ++ h :: R).Perm (h :: t) := (List.perm_middle.trans ((List.Perm.append_right R (List.reverse_perm L)).cons h)).trans (pm.cons h)
  have nd : (L.reverse ++ h :: R).Nodup := pm2.nodup_iff.mpr (pw.imp fun z => by omega)
  have ct := pm2.countP_eq (fun y => decide (y ≤ x))
  rw [cnt_le pw hx, List.countP_append, List.countP_reverse, List.countP_cons] at ct
  have hm : x ∈ L.reverse ++ h :: R := pm2.symm.subset (List.mem_of_getElem? hx)
  have hh : h ≤ x := by
    rcases List.mem_cons.mp (List.mem_of_getElem? hx) with z | z
    · omega
    · have := lo x z; omega
  simp only [decide_eq_true hh, if_true] at ct
  rcases List.mem_append.mp hm with z | z
  · have z := List.mem_reverse.mp z
    obtain ⟨L1, L2, rfl⟩ := List.append_of_mem z
    have e : (L1 ++ x :: L2).reverse ++ h :: R = L2.reverse ++ x :: (L1.reverse ++ h :: R) := by simp
    obtain ⟨_, p2, lt⟩ := List.pairwise_append.mp pl
    obtain ⟨lo2, _⟩ := List.pairwise_cons.mp p2
    rw [e, mk_at fun y => by have := lo2 x (List.mem_reverse.mp y); omega]
    have : fh x L2.reverse = L2.reverse := List.filter_eq_self.mpr fun y hy => decide_eq_true (by have := lo2 y (List.mem_reverse.mp hy); omega)
    rw [this, List.length_reverse]
    rw [List.countP_append, List.countP_cons, List.countP_eq_length.mpr fun y hy => decide_eq_true (by have := lt y hy x (by simp); omega)] at ct
    simp only [decide_eq_true (Int.le_refl x), if_true] at ct
    rw [List.length_append, List.length_cons]
    omega
  · rcases List.mem_cons.mp z with rfl | z
    · have : k = 0 := by
        cases k with
        | zero => rfl
        | succ k => have := lo x (List.mem_of_getElem? (by simpa using hx)); omega
      subst this
      rw [mk_at fun y => by have := lo x (sl.subset (List.mem_reverse.mp y)); omega]
      have : fh x L.reverse = L.reverse := List.filter_eq_self.mpr fun y hy => decide_eq_true (by have := lo y (sl.subset (List.mem_reverse.mp hy)); omega)
      rw [this, List.length_reverse]
      omega
    · obtain ⟨R1, R2, rfl⟩ := List.append_of_mem z
      have lx := lo x (sr.subset z)
      obtain ⟨_, p2, lt⟩ := List.pairwise_append.mp pr
      have e : L.reverse ++ h :: (R1 ++ x :: R2) = (L.reverse ++ h :: R1) ++ x :: R2 := by simp
      have nx_ : x ∉ L.reverse ++ h :: R1 := by
        rw [e] at nd
        exact fun y => (List.nodup_append.mp nd).2.2 x y x (by simp) rfl
      rw [e, mk_at nx_, fh_app, fh_no lx, fh_nil fun y hy => lt y hy x (by simp), List.append_nil]
      have c1 := fh_cnt x L.reverse
      rw [List.countP_reverse, List.length_reverse] at c1
      have c2 := cnt_mono (x := x) L
      rw [List.countP_append, List.countP_cons] at ct
      simp only [decide_eq_true (Int.le_refl x), if_true] at ct
      omega
theorem valley_rns {L R t : List Int} {h : Int} (pw : (h :: t).Pairwise (· < ·)) (sl : L.Sublist t) (sr : R.Sublist t) (pm : (L ++ R).Perm t) :
    RNS (L.reverse ++ h :: R) = vdue (t.length + 1) L.length L.length := by
  have pm2 : (L.reverse ++ h :: R).Perm (h :: t) := (List.perm_middle.trans ((List.Perm.append_right R (List.reverse_perm L)).cons h)).trans (pm.cons h)
  have nd : (L.reverse ++ h :: R).Nodup := pm2.nodup_iff.mpr (pw.imp fun z => by omega)
  have so : sortI (L.reverse ++ h :: R) = h :: t := sort_uniq ((sortI_perm _).trans pm2) (sortI_pw _) (pw.imp fun z => by omega)
  have hl : (L.reverse ++ h :: R).length = t.length + 1 := by rw [pm2.length_eq]; rfl
  have ll : L.length ≤ t.length := by have := pm.length_eq; rw [List.length_append] at this; omega
  have vd := vd_row nd
  unfold RNS
  rw [hl]
  refine vs_run (by rw [mks_len, hl]) (fun _ => ⟨fiv_pt _, fiv_vs (by omega)⟩) fun k c hk => ?_
  have v := vd_get vd k c hk
  rw [hl] at v
  unfold mks at hk
  rw [so, List.getElem?_map] at hk
  obtain ⟨x, hx, rfl⟩ := Option.map_eq_some_iff.mp hk
  have := valley_mk pw sl sr pm hx
  have v2 := v.1
  refine ⟨?_, this.2, ?_⟩
  · omega
  · have := v.2; omega
/-! hills -/
theorem noX_desc {l : List Int} (h : l.Pairwise (· > ·)) : noX l := fun A B C a b e hB hy => by
  subst e
  obtain ⟨y, hm⟩ := List.exists_mem_of_ne_nil B hB
  have h1 := (List.pairwise_append.mp h).2.1
  have h2 := (List.pairwise_cons.mp h1).2
  have := (List.pairwise_append.mp h2).2.2 y hm b (by simp)
  have := (hy y hm).2
  omega
theorem noX_cons {x : Int} {l : List Int} (h : noX l) (hx : ∀ y l', l = y :: l' → x < y) : noX (x :: l) := fun A B C a b e hB hy => by
  cases A with
  | nil =>
    rw [List.nil_append] at e
    injection e with e1 e2
    cases B with
    | nil => exact hB rfl
    | cons y B =>
      have := hx y (B ++ b :: C) e2
      have := (hy y (by simp)).1
      omega
  | cons z A =>
    rw [List.cons_append] at e
    injection e with e1 e2
    exact h A B C a b e2 hB hy
theorem noX_hill : ∀ {U : List Int} {t : Int} {D : List Int}, U.Pairwise (· < ·) → (∀ y ∈ U, y < t) → (t :: D).Pairwise (· > ·) → noX (U ++ t :: D)
  | [], t, D, _, _, h => noX_desc h
  | x :: U, t, D, pu, hu, h => by
    obtain ⟨lo, pu'⟩ := List.pairwise_cons.mp pu
    refine noX_cons (noX_hill pu' (fun y hy => hu y (by simp [hy])) h) fun y l' e => ?_
    cases U with
    | nil => have e : t :: D = y :: l' := e; injection e with e1 _; rw [← e1]; exact hu x (by simp)
    | cons z U => have e : z :: (U ++ t :: D) = y :: l' := e; injection e with e1 _; rw [← e1]; exact lo z (by simp)
theorem flat_RNS {ms : List Int} (nd : ms.Nodup) (h : noX ms) : ∀ p ∈ RNS ms, p.1 = p.2 := by
  have pw : (sortI ms).Pairwise (· < ·) := sortI_lt nd
  exact flat_run pw (sortI_perm ms).symm h
theorem flat_prod : ∀ {l : List Iv} {t : Int}, (∀ p ∈ l, p.1 = p.2) → prod t l = t
  | [], t, _ => rfl
  | p :: r, t, h => by
    rw [prod, flat_prod fun q hq => h q (by simp [hq])]
    have := h p (by simp)
    rw [show p.2 - p.1 + 1 = 1 by omega, Int.mul_one]
/-- each run one index: the codes -/
theorem flat_mks {ms : List Int} (nd : ms.Nodup) (h : ∀ p ∈ RNS ms, p.1 = p.2) : (RNS ms).map (fun p => p.1) = mks ms := by
  refine List.ext_getElem? fun i => ?_
  rw [List.getElem?_map]
  by_cases c : i < ms.length
  · have c1 : i < (RNS ms).length := by rw [RNS_len]; exact c
    have c2 : i < (mks ms).length := by rw [mks_len]; exact c
    have := rns_ok (fiv_pt ms.length) (by rw [mks_len]) (vd_row nd) i (RNS ms)[i] (mks ms)[i] (List.getElem?_eq_getElem c1) (List.getElem?_eq_getElem c2)
    have e := h _ (List.getElem_mem c1)
    rw [List.getElem?_eq_getElem c1, List.getElem?_eq_getElem c2]
    show some (RNS ms)[i].1 = some _
    congr 1
    omega
  · rw [List.getElem?_eq_none (by rw [RNS_len]; omega), List.getElem?_eq_none (by rw [mks_len]; omega)]
    rfl
theorem mks_inj {ms ns : List Int} (p : ns.Perm ms) (nd : ms.Nodup) (h : mks ns = mks ms) : ns = ms := by
  have pw : (sortI ms).Pairwise (· < ·) := sortI_lt nd
  have e1 := bld_mk pw (sortI_perm ms).symm
  have e2 := bld_mk pw (p.trans (sortI_perm ms).symm)
  unfold mks at h
  rw [sort_perm p] at h
  rw [← e1, ← e2, h]
/-! teeth -/
theorem all_jn {iv : List Iv} {m : Nat} (hm : m ≠ 0) (hp : Pt 0 m iv) (h : ∀ k : Nat, k + 1 < m → jn iv k) : iv = [((0 : Int), (((m - 1 : Nat)) : Int))] := by
  cases iv with
  | nil => have : (0 : Int) = m := hp; omega
  | cons p r =>
    have p1 := hp.1
    have p2 := pt_get hp (i := 0) (p := p) rfl
    have : p.2 = ((m - 1 : Nat) : Int) := by
      by_cases c : p.2 = ((m - 1 : Nat) : Int)
      · exact c
      · obtain ⟨i, q, hq, q1, q2⟩ := h p.2.toNat (by omega)
        have ei : i = 0 := by
          have a := rix_in hp hq (c := p.2) (by omega) (by omega)
          have b := rix_in hp (k := 0) (p := p) rfl (c := p.2) (by omega) (by omega)
          omega
        subst ei
        have : p = q := by simpa using hq
        subst this
        omega
    cases r with
    | nil => congr 1; exact Prod.ext p1 this
    | cons q r =>
      have := pt_get hp (i := 1) (p := q) rfl
      have := pt_adj hp (i := 0) (p := p) (q := q) rfl rfl
      omega
theorem teeth_run : ∀ {S1 S2 ms : List Int} {iv : List Iv}, (S1 ++ S2).Pairwise (· < ·) → ms.Perm (S1 ++ S2) → S2 ≠ [] → Pt 0 (ms.length : Nat) iv → (∀ (A : List Int) (a b : Int) (C : List Int), ms = A ++ a :: b :: C → a ∈ S2 → b ∈ S2 → jn iv (A.length : Nat)) →
    ∃ (Q : List Iv) (ns : List Int), Q.length = S1.length ∧ ns.Perm S2 ∧ rns iv ((S1 ++ S2).map (mk ms)) = Q ++ rns [((0 : Int), ((S2.length - 1 : Nat) : Int))] (S2.map (mk ns))
  | [], S2, ms, iv, pw, p, hn, hp, hj => by
    have hl : ms.length = S2.length := p.length_eq
    refine ⟨[], ms, rfl, p, ?_⟩
    have : iv = [((0 : Int), (((S2.length - 1 : Nat)) : Int))] := by
      rw [hl] at hp
      refine all_jn (fun z => hn (List.length_eq_zero_iff.mp z)) hp fun k hk => ?_
      have k1 : k < ms.length := by omega
      have k2 : k + 1 < ms.length := by omega
      have e : ms = ms.take k ++ ms[k] :: ms[k + 1] :: ms.drop (k + 2) := by
        rw [List.getElem_cons_drop k2, List.getElem_cons_drop k1, List.take_append_drop]
      have := hj _ _ _ _ e (p.subset (List.getElem_mem k1)) (p.subset (List.getElem_mem k2))
      rw [List.length_take, Nat.min_eq_left (by omega)] at this
      exact this
    rw [this]; rfl
  | h :: S1, S2, ms, iv, pw, p, hn, hp, hj => by
    have hin : h ∈ ms := p.symm.subset (by simp)
    obtain ⟨l1, l2, rfl⟩ := List.append_of_mem hin
    obtain ⟨pw', p', nh, lo, r, e1, e2, e3, e4, e5⟩ := low_out (S := S1 ++ S2) pw p hp
    have ne : l1 ++ l2 ≠ [] := fun z => by
      rw [z] at p'
      have := List.nil_perm.mp p'
      exact hn (List.append_eq_nil_iff.mp this).2
    obtain ⟨Q, ns, q1, q2, q3⟩ := teeth_run pw' p' hn (e5 ne) fun A a b C e ha hb => by
      rcases List.append_eq_append_iff.mp e with ⟨as, rfl, rfl⟩ | ⟨cs, rfl, e0⟩
      · have := hj (l1 ++ h :: as) a b C (by simp) ha hb
        rw [show (((l1 ++ h :: as).length : Nat) : Int) = (((l1 ++ as).length : Nat) : Int) + 1 by simp; omega] at this
        exact jn_hi hp e1 e2 e3 this (by rw [List.length_append]; omega)
      · cases cs with
        | nil =>
          rw [List.nil_append] at e0
          have := hj (A ++ [h]) a b C (by rw [← e0]; simp) ha hb
          rw [show (((A ++ [h]).length : Nat) : Int) = ((A.length : Nat) : Int) + 1 by simp] at this
          exact jn_hi hp e1 e2 e3 this (by simp)
        | cons a' cs =>
          rw [List.cons_append] at e0
          injection e0 with ea e0
          subst ea
          cases cs with
          | nil =>
            rw [List.nil_append] at e0
            have := jn_at hp e1 e2 e3 (by rw [List.length_append]; simp; omega) (by rw [← e0]; simp; omega)
            rw [show (((A ++ [a]).length : Nat) : Int) - 1 = ((A.length : Nat) : Int) by simp] at this
            exact this
          | cons b' cs =>
            rw [List.cons_append] at e0
            injection e0 with eb e0
            subst eb
            have := hj A a b (cs ++ h :: l2) (by simp) ha hb
            exact jn_lo hp e1 e2 e3 this (by simp; omega)
    exact ⟨r :: Q, ns, by rw [List.length_cons, q1]; rfl, q2, by rw [List.cons_append, e4, q3]; rfl⟩
theorem full_run {S ns : List Int} (pw : S.Pairwise (· < ·)) (p : ns.Perm S) (hn : S ≠ []) : rns [((0 : Int), ((S.length - 1 : Nat) : Int))] (S.map (mk ns)) = vdue S.length 0 ((S.length - 1 : Nat) : Int) := by
  have l0 : S.length ≠ 0 := fun z => hn (List.length_eq_zero_iff.mp z)
  refine vs_run (f := 0) (l := S.length - 1) (by rw [List.length_map]) (fun _ => ⟨⟨rfl, ?_, ?_⟩, rfl, by simp; omega⟩) fun k c hk => ?_
  · show (0 : Int) ≤ ((S.length - 1 : Nat) : Int)
    omega
  · show ((S.length - 1 : Nat) : Int) + 1 = _
    omega
  · have := vd_get (mks_vd pw p) k c hk
    refine ⟨by simp; exact this.1, by omega, by omega⟩
theorem prod_app : ∀ (a b : List Iv) (t : Int), prod t (a ++ b) = prod (prod t a) b
  | [], b, t => rfl
  | p :: a, b, t => by rw [List.cons_append, prod, prod, prod_app a b]
theorem prod_mul : ∀ (b : List Iv) (t : Int), prod t b = t * prod 1 b
  | [], t => by simp [prod]
  | p :: b, t => by rw [prod, prod, prod_mul b (t * _), prod_mul b (1 * _), Int.one_mul, Int.mul_assoc]
def fct : Nat → Int
  | 0 => 1
  | n + 1 => fct n * (n + 1)
theorem prod_down : ∀ n : Nat, prod 1 (vdue n 0 ((n : Int) - 1)) = fct n
  | 0 => rfl
  | n + 1 => by
    rw [vdue, prod, prod_mul, show max (0 : Int) (0 - 1) = 0 by omega, show min (((n + 1 : Nat) : Int) - 1) ((n : Int) - 1) = (n : Int) - 1 by omega, prod_down n, fct]
    show 1 * (((n + 1 : Nat) : Int) - 1 - 0 + 1) * fct n = fct n * ((n : Int) + 1)
    rw [show ((n + 1 : Nat) : Int) - 1 - 0 + 1 = (n : Int) + 1 by omega, Int.one_mul, Int.mul_comm]
end Ov

set_option Elab.async false
set_option linter.all false
set_option maxRecDepth 100000
set_option maxHeartbeats 4000000
namespace Ov
open PySem L2
theorem app_ok {env : En} {i : Nat} {f : M R} {x : PyData} {acc : List PyData} (e : env[i]? = some (some (.own (dats acc)))) (h : Gv f env x) (hl : acc.length + 1 ≤ 1000000) : exprS (mthE i appD (acons f anil)) env = some (.ok .nx (env.set i (some (.own (dats (acc ++ [x])))))) := by
  unfold Gv at h
  have ap := v_app acc x hl
  simp [v_bind, v_ok, v_none, v_pure, v_lift, v_liftN, v_con, v_get, v_gkd, v_gko, v_gkc, v_vwd, v_vws, v_ok1, v_ownD, v_dctD, v_dk1, v_setOwn, v_putM, v_op2, v_op1, v_anil, v_acons, v_vws0, v_vwsC, v_cb, v_tupD, v_lstD, v_lstW, v_listW, v_dds0, v_ddsC, v_asB, v_tb1, v_andT, v_orT, v_notT, v_andV, v_orV, v_notV, v_ofB, v_ifE, v_pl, v_toW, v_fz, v_ofWd, v_ofWo, v_nxt, v_thenS, v_exprS, v_retS, v_retN, v_ifS, v_setS, v_parS, v_setIx, v_asD, v_asI, v_mthE, v_callA, v_callB, v_forS, v_argI, v_seqI, v_slD, v_poN, v_poS, v_isiE, v_isiE2, v_isNE, v_dnew, v_dinT, v_dputS, v_sortDct, v_rgE, v_rg2, v_unS, v_catW, v_chainE, v_add, v_sub, v_lt, v_le, v_gt, v_ge, v_eqI, v_eqB, v_eqS, v_ixL, v_ixT, v_lenL, v_lenT, v_abs, v_intI, v_intB, v_min, v_max, v_chk, h, e, ap]
theorem pDiv_one : pDiv 0 1 = true := by decide
theorem rowat_for {d n : PyData} : ∀ (l : List Iv) {acc : List PyData} {w4 w5 : Option Wv}, (∀ p ∈ l, p.1 = p.2) → acc.length + l.length ≤ 1000 →
    ∃ u4 u5, forM (gN 4) b_row_at_3 (ivD l) [some (.dat d), some (.dat n), some (.own (dats acc)), some (.dat (.int 0)), w4, w5] = some (.ok .nx [some (.dat d), some (.dat n), some (.own (dats (acc ++ (l.map fun p => p.1).map .int))), some (.dat (.int 0)), u4, u5])
  | [], acc, w4, w5, _, _ => ⟨w4, w5, by rw [List.map_nil, List.map_nil, List.append_nil]; exact for_nil⟩
  | p :: l, acc, w4, w5, h, hl => by
    rw [List.length_cons] at hl
    have h0 := h p (List.mem_cons_self ..)
    have sz1 := size_ok p
    rw [show p.2 - p.1 + 1 = 1 by omega] at sz1
    have dm : dmD [.int 0, .int 1] = some (.tuple [.int 0, .int 0]) := v_dm pDiv_one
    obtain ⟨u4, u5, e⟩ := rowat_for (d := d) (n := n) l (acc := acc ++ [.int p.1]) (w4 := some (.dat (pD p))) (w5 := some (.dat (.int 0))) (fun q hq => h q (List.mem_cons_of_mem _ hq)) (by rw [List.length_append]; show acc.length + 1 + _ ≤ _; omega)
    have s1 : unS (gT (gsC (gN 3) (gsC (gN 5) gsN))) (cb dmD (acons (get 3) (acons (fz (callA F_run_size (acons (get 4) anil))) anil))) [some (.dat d), some (.dat n), some (.own (dats acc)), some (.dat (.int 0)), some (.dat (pD p)), w5] = some (.ok .nx [some (.dat d), some (.dat n), some (.own (dats acc)), some (.dat (.int 0)), some (.dat (pD p)), some (.dat (.int 0))]) :=
      un_ok (cb2_ok (get_ok rfl) (call1 (get_ok rfl) sz1) dm) rfl
    have ix : ixD (pD p) (.int 0) = some (.int p.1) := rfl
    have ad : addD (.int p.1) (.int 0) = some (.int p.1) := by rw [v_add]; rw [Int.add_zero]
    have s2 : exprS (mthE 2 appD (acons (op2 addD (op2 ixD (get 4) (con (.int 0))) (get 5)) anil)) [some (.dat d), some (.dat n), some (.own (dats acc)), some (.dat (.int 0)), some (.dat (pD p)), some (.dat (.int 0))] = some (.ok .nx [some (.dat d), some (.dat n), some (.own (dats (acc ++ [.int p.1]))), some (.dat (.int 0)), some (.dat (pD p)), some (.dat (.int 0))]) :=
      app_ok (i := 2) rfl (op2_ok (op2_ok (get_ok rfl) con_ok ix) (get_ok rfl) ad) (by omega)
    refine ⟨u4, u5, (for_go (e := [some (.dat d), some (.dat n), some (.own (dats acc)), some (.dat (.int 0)), some (.dat (pD p)), w5]) rfl ((then_nx s1).trans s2)).trans (e.trans ?_)⟩
    rw [List.append_assoc]
    rfl
theorem rev_ok {env : En} {f : M R} {d : PyData} {ds : List PyData} (e : Gv f env d) (hs : seqD d = some ds) : revI f env = some (.ok ds.reverse env) := by
  unfold Gv at e
  unfold revI
  simp [v_bind, v_ok, v_none, v_pure, v_lift, v_liftN, v_con, v_get, v_gkd, v_gko, v_gkc, v_vwd, v_vws, v_ok1, v_ownD, v_dctD, v_dk1, v_setOwn, v_putM, v_op2, v_op1, v_anil, v_acons, v_vws0, v_vwsC, v_cb, v_tupD, v_lstD, v_lstW, v_listW, v_dds0, v_ddsC, v_asB, v_tb1, v_andT, v_orT, v_notT, v_andV, v_orV, v_notV, v_ofB, v_ifE, v_pl, v_toW, v_fz, v_ofWd, v_ofWo, v_nxt, v_thenS, v_exprS, v_retS, v_retN, v_ifS, v_setS, v_parS, v_setIx, v_asD, v_asI, v_mthE, v_callA, v_callB, v_forS, v_argI, v_seqI, v_slD, v_poN, v_poS, v_isiE, v_isiE2, v_isNE, v_dnew, v_dinT, v_dputS, v_sortDct, v_rgE, v_rg2, v_unS, v_catW, v_chainE, v_add, v_sub, v_lt, v_le, v_gt, v_ge, v_eqI, v_eqB, v_eqS, v_ixL, v_ixT, v_lenL, v_lenT, v_abs, v_intI, v_intB, v_min, v_max, v_chk, e, hs]
theorem ivD_rev (l : List Iv) : (ivD l).reverse = ivD l.reverse := by unfold ivD; rw [List.map_reverse]
theorem rev_own {env : En} {i : Nat} {M : List PyData} (e : env[i]? = some (some (.own (dats M)))) : Gv (op1 revD (get i)) env (.list M.reverse) := by
  unfold Gv
  simp [v_bind, v_ok, v_none, v_pure, v_lift, v_liftN, v_con, v_get, v_gkd, v_gko, v_gkc, v_vwd, v_vws, v_ok1, v_ownD, v_dctD, v_dk1, v_setOwn, v_putM, v_op2, v_op1, v_anil, v_acons, v_vws0, v_vwsC, v_cb, v_tupD, v_lstD, v_lstW, v_listW, v_dds0, v_ddsC, v_asB, v_tb1, v_andT, v_orT, v_notT, v_andV, v_orV, v_notV, v_ofB, v_ifE, v_pl, v_toW, v_fz, v_ofWd, v_ofWo, v_nxt, v_thenS, v_exprS, v_retS, v_retN, v_ifS, v_setS, v_parS, v_setIx, v_asD, v_asI, v_mthE, v_callA, v_callB, v_forS, v_argI, v_seqI, v_slD, v_poN, v_poS, v_isiE, v_isiE2, v_isNE, v_dnew, v_dinT, v_dputS, v_sortDct, v_rgE, v_rg2, v_unS, v_catW, v_chainE, v_add, v_sub, v_lt, v_le, v_gt, v_ge, v_eqI, v_eqB, v_eqS, v_ixL, v_ixT, v_lenL, v_lenT, v_abs, v_intI, v_intB, v_min, v_max, v_chk, e, revD]
theorem rowat_ok {ms : List Int} (nd : ms.Nodup) (hl : ms.length ≤ 16) (hf : ∀ p ∈ RNS ms, p.1 = p.2) : F_row_at [rowD ms, .int 0] = some (.dat (rowD ms)) := by
  have ru := runs_ok (d := rowD ms) (.inr rfl) (by omega) nd
  have cn := count_ok nd hl
  rw [flat_prod hf] at cn
  have rw_ := row_with_ok (d := rowD ms) (e := .list ((mks ms).map .int)) (ms := ms) (cs := mks ms) (.inr rfl) (.inl rfl) (mks_len ms) (by omega) fun c hc => by
    obtain ⟨j, hj, e⟩ := List.getElem_of_mem hc
    have := vd_get (vd_row nd) j c (by rw [← e]; exact List.getElem?_eq_getElem hj)
    omega
  have bm : bld (sortI ms) (mks ms) = ms := bld_mk (sortI_lt nd) (sortI_perm ms).symm
  rw [bm] at rw_
  obtain ⟨u4, u5, e⟩ := rowat_for (d := rowD ms) (n := .int 0) (RNS ms).reverse (acc := []) (w4 := none) (w5 := none) (fun p hp => hf p (List.mem_reverse.mp hp)) (by rw [List.length_reverse, RNS_len]; show 0 + _ ≤ _; omega)
  rw [List.nil_append] at e
  have rv : (((RNS ms).reverse.map fun p => p.1).map PyData.int).reverse = (mks ms).map .int := by rw [← List.map_reverse, ← List.map_reverse, List.reverse_reverse, flat_mks nd hf]
  have it : revI (fz (callA F_runs (acons (get 0) anil))) [some (.dat (rowD ms)), some (.dat (.int 0)), some (.own (dats [])), some (.dat (.int 0)), none, none] = some (.ok (ivD (RNS ms).reverse) [some (.dat (rowD ms)), some (.dat (.int 0)), some (.own (dats [])), some (.dat (.int 0)), none, none]) := by
    rw [← ivD_rev]
    exact rev_ok (call1 (get_ok rfl) ru) rfl
  generalize ((RNS ms).reverse.map fun p => p.1).map PyData.int = X at *
  generalize ivD (RNS ms).reverse = L at *
  have s0 : s_row_at_0 [some (.dat (rowD ms)), some (.dat (.int 0)), none, none, none, none] = some (.ok .nx [some (.dat (rowD ms)), some (.dat (.int 0)), none, none, none, none]) :=
    if_nx (orT_ff (tb_ok (op2_ok (c := .bool false) (get_ok rfl) con_ok rfl)) (tb_ok (op2_ok (c := .bool false) (get_ok rfl) (call1 (get_ok rfl) cn) rfl)))
  have s1 : s_row_at_1 [some (.dat (rowD ms)), some (.dat (.int 0)), none, none, none, none] = some (.ok .nx [some (.dat (rowD ms)), some (.dat (.int 0)), some (.own (dats [])), none, none, none]) := by unfold s_row_at_1; simp [v_bind, v_ok, v_none, v_pure, v_lift, v_liftN, v_con, v_get, v_gkd, v_gko, v_gkc, v_vwd, v_vws, v_ok1, v_ownD, v_dctD, v_dk1, v_setOwn, v_putM, v_op2, v_op1, v_anil, v_acons, v_vws0, v_vwsC, v_cb, v_tupD, v_lstD, v_lstW, v_listW, v_dds0, v_ddsC, v_asB, v_tb1, v_andT, v_orT, v_notT, v_andV, v_orV, v_notV, v_ofB, v_ifE, v_pl, v_toW, v_fz, v_ofWd, v_ofWo, v_nxt, v_thenS, v_exprS, v_retS, v_retN, v_ifS, v_setS, v_parS, v_setIx, v_asD, v_asI, v_mthE, v_callA, v_callB, v_forS, v_argI, v_seqI, v_slD, v_poN, v_poS, v_isiE, v_isiE2, v_isNE, v_dnew, v_dinT, v_dputS, v_sortDct, v_rgE, v_rg2, v_unS, v_catW, v_chainE, v_add, v_sub, v_lt, v_le, v_gt, v_ge, v_eqI, v_eqB, v_eqS, v_ixL, v_ixT, v_lenL, v_lenT, v_abs, v_intI, v_intB, v_min, v_max, v_chk, sz]
  have s2 : s_row_at_2 [some (.dat (rowD ms)), some (.dat (.int 0)), some (.own (dats [])), none, none, none] = some (.ok .nx [some (.dat (rowD ms)), some (.dat (.int 0)), some (.own (dats [])), some (.dat (.int 0)), none, none]) := set_ok (get_ok rfl) (by show 3 < 6; decide)
  have s3 : s_row_at_3 [some (.dat (rowD ms)), some (.dat (.int 0)), some (.own (dats [])), some (.dat (.int 0)), none, none] = some (.ok .nx [some (.dat (rowD ms)), some (.dat (.int 0)), some (.own (dats X)), some (.dat (.int 0)), u4, u5]) := for_ok it e
  have re : Gv (op1 revD (get 2)) [some (.dat (rowD ms)), some (.dat (.int 0)), some (.own (dats X)), some (.dat (.int 0)), u4, u5] (.list ((mks ms).map .int)) := by
    rw [← rv]
    exact rev_own rfl
  refine runA_eq rfl ⟨[some (.dat (rowD ms)), some (.dat (.int 0)), some (.own (dats X)), some (.dat (.int 0)), u4, u5], ?_⟩
  show f_row_at [some (.dat (rowD ms)), some (.dat (.int 0)), none, none, none, none] = _
  unfold f_row_at
  rw [then_nx s0, then_nx s1, then_nx s2, then_nx s3]
  exact ret_ok (call2 (get_ok rfl) re rw_)
theorem allrows_ok {ms : List Int} (nd : ms.Nodup) (hl : ms.length ≤ 16) (hf : ∀ p ∈ RNS ms, p.1 = p.2) : F_all_rows [rowD ms] = some (.dat (.list [rowD ms])) := by
  have cn := count_ok nd hl
  rw [flat_prod hf] at cn
  have ra := rowat_ok nd hl hf
  have rg : rngD [.int 1] = some [.int 0] := rfl
  generalize rowD ms = X at *
  have s0 : s_all_rows_0 [some (.dat X), none, none] = some (.ok .nx [some (.dat X), some (.dat (.int 1)), none]) := set_ok (call1 (get_ok rfl) cn) (by show 1 < 3; decide)
  have s1 : s_all_rows_1 [some (.dat X), some (.dat (.int 1)), none] = some (.ok .nx [some (.dat X), some (.dat (.int 1)), none]) := if_nx (tb_ok (op2_ok (c := .bool false) (get_ok rfl) con_ok rfl))
  have lc : lcW (argI rngD (acons (get 1) anil)) (gN 2) yesT (fz (callA F_row_at (acons (get 0) (acons (get 2) anil)))) [2] [some (.dat X), some (.dat (.int 1)), none] = some (.ok (.own (dats [X])) [some (.dat X), some (.dat (.int 1)), none]) := by
    refine lc_eq (it1_ok (get_ok rfl) rg) rfl rfl ?_
    refine (comp_yes (e := [some (.dat X), some (.dat (.int 1)), some (.dat (.int 0))]) rfl rfl (call2 (get_ok rfl) (get_ok rfl) ra) rfl (by decide)).trans ?_
    rfl
  refine runA_eq rfl ⟨[some (.dat X), some (.dat (.int 1)), none], ?_⟩
  show f_all_rows [some (.dat X), none, none] = _
  unfold f_all_rows
  rw [then_nx s0, then_nx s1]
  exact ret_ok (fz_ok lc)
end Ov

set_option Elab.async false
set_option linter.all false
set_option maxRecDepth 100000
set_option maxHeartbeats 4000000
namespace Ov
open PySem L2
theorem lay_iv (l : List Iv) : PyData.canLayAll0 (ivD l) = true ∧ PyData.depthAll (ivD l) ≤ 10 := by
  induction l with
  | nil => exact ⟨rfl, Nat.zero_le _⟩
  | cons p r ih =>
    constructor
    · show (PyData.canLay0 (pD p) && PyData.canLayAll0 (ivD r)) = true
      rw [ih.1, show PyData.canLay0 (pD p) = true from lay_ints [p.1, p.2]]
      rfl
    · show max (PyData.depth (pD p)) (PyData.depthAll (ivD r)) ≤ 10
      have e : PyData.depth (pD p) ≤ 10 := by
        have := depth_ints [p.1, p.2]
        show PyData.depthAll ([p.1, p.2].map PyData.int) + 1 ≤ 10
        omega
      have := ih.2
      omega
theorem shp_ivL (l : List Iv) : shp (.list (ivD l)) = true := by
  obtain ⟨h1, h2⟩ := lay_iv l
  unfold shp SeqAt.shaped
  rw [show PyData.canLay0 (.list (ivD l)) = true from h1, decide_eq_true (show PyData.depth (.list (ivD l)) ≤ 64 from by show PyData.depthAll (ivD l) + 1 ≤ 64; omega)]
  rfl
theorem eqv_rf {x : Bool} {d : PyData} (h : shp d = true) : eqvD x d d = some (.bool (x ^^ true)) := by
  unfold eqvD
  have h' : (d.canLay0 && decide (d.depth ≤ 64)) = true := h
  rw [h, PySem.SeqAt.eqv_refl d ((Bool.and_eq_true _ _).mp h').1]
  rfl
theorem nil_eq {l : List Iv} : eqvD false (.list (ivD l)) (.list []) = some (.bool l.isEmpty) := by
  unfold eqvD
  rw [shp_ivL, show shp (.list []) = true by decide]
  cases l with
  | nil => rfl
  | cons p r =>
    show some (PyData.bool (false ^^ PyData.eqv (.list (pD p :: ivD r)) (.list []))) = _
    rw [show PyData.eqv (.list (pD p :: ivD r)) (.list []) = false by simp [PyData.eqv, PyData.eqvAll]]
    rfl
theorem par_ok {env : En} {i j : Nat} {f g : M R} {a b : PyData} (h1 : Gv f env a) (h2 : Gv g env b) (hi : i < env.length) (hj : j < env.length) : parS i j (pl f) (pl g) env = some (.ok .nx ((env.set i (some (.dat a))).set j (some (.dat b)))) := by
  unfold Gv at *
  simp [v_bind, v_ok, v_none, v_pure, v_lift, v_liftN, v_con, v_get, v_gkd, v_gko, v_gkc, v_vwd, v_vws, v_ok1, v_ownD, v_dctD, v_dk1, v_setOwn, v_putM, v_op2, v_op1, v_anil, v_acons, v_vws0, v_vwsC, v_cb, v_tupD, v_lstD, v_lstW, v_listW, v_dds0, v_ddsC, v_asB, v_tb1, v_andT, v_orT, v_notT, v_andV, v_orV, v_notV, v_ofB, v_ifE, v_pl, v_toW, v_fz, v_ofWd, v_ofWo, v_nxt, v_thenS, v_exprS, v_retS, v_retN, v_ifS, v_setS, v_parS, v_setIx, v_asD, v_asI, v_mthE, v_callA, v_callB, v_forS, v_argI, v_seqI, v_slD, v_poN, v_poS, v_isiE, v_isiE2, v_isNE, v_dnew, v_dinT, v_dputS, v_sortDct, v_rgE, v_rg2, v_unS, v_catW, v_chainE, v_add, v_sub, v_lt, v_le, v_gt, v_ge, v_eqI, v_eqB, v_eqS, v_ixL, v_ixT, v_lenL, v_lenT, v_abs, v_intI, v_intB, v_min, v_max, v_chk, h1, h2, hi, hj]
theorem shp_ivT (l : List Iv) : shp (.tuple (ivD l)) = true := by
  obtain ⟨h1, h2⟩ := lay_iv l
  unfold shp SeqAt.shaped
  rw [show PyData.canLay0 (.tuple (ivD l)) = true from h1, decide_eq_true (show PyData.depth (.tuple (ivD l)) ≤ 64 from by show PyData.depthAll (ivD l) + 1 ≤ 64; omega)]
  rfl
theorem cat_ok {xs ys : List PyData} (h : xs.length + ys.length ≤ 1000000) : catD (.list xs) (.list ys) = some (.list (xs ++ ys)) := by
  show (sz (xs.length + ys.length)).map _ = _
  rw [v_sz _ h]
  rfl
theorem val_for {c1 c2 : Option Wv} : ∀ (l : List Int) {m : Int} {bs : List PyData} {L R : List Int} {w5 : Option Wv}, Bok m bs → m + l.length ≤ 10 ^ 10 → L.length + R.length + l.length ≤ 1000 →
    ∃ (L' R' : List Int) (bs' : List PyData) (u5 : Option Wv), forM (gN 5) b_valley_right_3 (l.map .int) [some (.own (dats bs)), c1, c2, some (.own (dats (L.map .int))), some (.own (dats (R.map .int))), w5, none, none, none, none, none, none] = some (.ok .nx [some (.own (dats bs')), c1, c2, some (.own (dats ((L ++ L').map .int))), some (.own (dats ((R ++ R').map .int))), u5, none, none, none, none, none, none]) ∧ L'.Sublist l ∧ R'.Sublist l ∧ (L' ++ R').Perm l ∧ Bok (m + l.length) bs'
  | [], m, bs, L, R, w5, hb, hn, hl => ⟨[], [], bs, w5, by rw [List.append_nil, List.append_nil]; exact for_nil, .slnil, .slnil, .nil, hb.mono (by simp)⟩
  | x :: l, m, bs, L, R, w5, hb, hn, hl => by
    rw [List.length_cons] at hn hl
    obtain ⟨r, bs1, e1, r0, r1, k1⟩ := take_small (k := 1) hb (by omega) (below := 2) (by decide) (by decide)
    have cs : r = 0 ∨ r = 1 := by omega
    rcases cs with rfl | rfl
    · obtain ⟨L', R', bs', u5, e, s1, s2, pm, k⟩ := val_for l (L := L ++ [x]) (R := R) (w5 := some (.dat (.int x))) k1 (by omega) (by rw [List.length_append]; show L.length + 1 + _ + _ ≤ _; omega)
      have ap := v_app (L.map PyData.int) (.int x) (by rw [List.length_map]; omega)
      refine ⟨x :: L', R', bs', u5, (for_go (e := [some (.own (dats bs)), c1, c2, some (.own (dats (L.map .int))), some (.own (dats (R.map .int))), some (.dat (.int x)), none, none, none, none, none, none]) (e2 := [some (.own (dats bs1)), c1, c2, some (.own (dats ((L ++ [x]).map .int))), some (.own (dats (R.map .int))), some (.dat (.int x)), none, none, none, none, none, none]) rfl ?_).trans (e.trans (by rw [List.append_assoc]; rfl)), s1.cons₂ x, s2.cons x, pm.cons x, k.mono (by rw [List.length_cons]; omega)⟩
      unfold b_valley_right_3
      simp [v_bind, v_ok, v_none, v_pure, v_lift, v_liftN, v_con, v_get, v_gkd, v_gko, v_gkc, v_vwd, v_vws, v_ok1, v_ownD, v_dctD, v_dk1, v_setOwn, v_putM, v_op2, v_op1, v_anil, v_acons, v_vws0, v_vwsC, v_cb, v_tupD, v_lstD, v_lstW, v_listW, v_dds0, v_ddsC, v_asB, v_tb1, v_andT, v_orT, v_notT, v_andV, v_orV, v_notV, v_ofB, v_ifE, v_pl, v_toW, v_fz, v_ofWd, v_ofWo, v_nxt, v_thenS, v_exprS, v_retS, v_retN, v_ifS, v_setS, v_parS, v_setIx, v_asD, v_asI, v_mthE, v_callA, v_callB, v_forS, v_argI, v_seqI, v_slD, v_poN, v_poS, v_isiE, v_isiE2, v_isNE, v_dnew, v_dinT, v_dputS, v_sortDct, v_rgE, v_rg2, v_unS, v_catW, v_chainE, v_add, v_sub, v_lt, v_le, v_gt, v_ge, v_eqI, v_eqB, v_eqS, v_ixL, v_ixT, v_lenL, v_lenT, v_abs, v_intI, v_intB, v_min, v_max, v_chk, e1, ap]
    · obtain ⟨L', R', bs', u5, e, s1, s2, pm, k⟩ := val_for l (L := L) (R := R ++ [x]) (w5 := some (.dat (.int x))) k1 (by omega) (by rw [List.length_append]; show _ + (R.length + 1) + _ ≤ _; omega)
      have ap := v_app (R.map PyData.int) (.int x) (by rw [List.length_map]; omega)
      refine ⟨L', x :: R', bs', u5, (for_go (e := [some (.own (dats bs)), c1, c2, some (.own (dats (L.map .int))), some (.own (dats (R.map .int))), some (.dat (.int x)), none, none, none, none, none, none]) (e2 := [some (.own (dats bs1)), c1, c2, some (.own (dats (L.map .int))), some (.own (dats ((R ++ [x]).map .int))), some (.dat (.int x)), none, none, none, none, none, none]) rfl ?_).trans (e.trans (by rw [List.append_assoc (as := R)]; rfl)), s1.cons x, s2.cons₂ x, List.perm_middle.trans (pm.cons x), k.mono (by rw [List.length_cons]; omega)⟩
      unfold b_valley_right_3
      simp [v_bind, v_ok, v_none, v_pure, v_lift, v_liftN, v_con, v_get, v_gkd, v_gko, v_gkc, v_vwd, v_vws, v_ok1, v_ownD, v_dctD, v_dk1, v_setOwn, v_putM, v_op2, v_op1, v_anil, v_acons, v_vws0, v_vwsC, v_cb, v_tupD, v_lstD, v_lstW, v_listW, v_dds0, v_ddsC, v_asB, v_tb1, v_andT, v_orT, v_notT, v_andV, v_orV, v_notV, v_ofB, v_ifE, v_pl, v_toW, v_fz, v_ofWd, v_ofWo, v_nxt, v_thenS, v_exprS, v_retS, v_retN, v_ifS, v_setS, v_parS, v_setIx, v_asD, v_asI, v_mthE, v_callA, v_callB, v_forS, v_argI, v_seqI, v_slD, v_poN, v_poS, v_isiE, v_isiE2, v_isNE, v_dnew, v_dinT, v_dputS, v_sortDct, v_rgE, v_rg2, v_unS, v_catW, v_chainE, v_add, v_sub, v_lt, v_le, v_gt, v_ge, v_eqI, v_eqB, v_eqS, v_ixL, v_ixT, v_lenL, v_lenT, v_abs, v_intI, v_intB, v_min, v_max, v_chk, e1, ap]
theorem due_step {bs : List PyData} {c f l t k m : Int} {c2 c3 c4 c5 c6 : Option Wv} {acc : List Iv} (ha : acc.length ≤ 1000) (pm : pMul t (l - f + 1) = true) (hk : c - k - 2 = m) :
    b_valley_right_6 [some (.own (dats bs)), some (.dat (.int c)), c2, c3, c4, c5, c6, some (.dat (.int f)), some (.dat (.int l)), some (.own (dats (ivD acc))), some (.dat (.int t)), some (.dat (.int k))] = some (.ok .nx [some (.own (dats bs)), some (.dat (.int c)), c2, c3, c4, c5, c6, some (.dat (.int (max 0 (f - 1)))), some (.dat (.int (min l m))), some (.own (dats (ivD (acc ++ [(f, l)])))), some (.dat (.int (t * (l - f + 1)))), some (.dat (.int k))]) := by
  have ap := v_app (ivD acc) (.tuple [.int f, .int l]) (by rw [iv_len]; omega)
  have mu := v_mulD _ _ pm
  have a1 : exprS (mthE 9 appD (acons (tupD (acons (get 7) (acons (get 8) anil))) anil)) [some (.own (dats bs)), some (.dat (.int c)), c2, c3, c4, c5, c6, some (.dat (.int f)), some (.dat (.int l)), some (.own (dats (ivD acc))), some (.dat (.int t)), some (.dat (.int k))] = some (.ok .nx [some (.own (dats bs)), some (.dat (.int c)), c2, c3, c4, c5, c6, some (.dat (.int f)), some (.dat (.int l)), some (.own (dats (ivD (acc ++ [(f, l)])))), some (.dat (.int t)), some (.dat (.int k))]) := by
    refine (app_ok (i := 9) (acc := ivD acc) rfl (tup2_ok (get_ok rfl) (get_ok rfl)) (by rw [iv_len]; omega)).trans ?_
    unfold ivD
    rw [List.map_append]
    rfl
  have a2 : setS 10 (pl (op2 mulD (get 10) (op2 addD (op2 subD (get 8) (get 7)) (con (.int 1))))) [some (.own (dats bs)), some (.dat (.int c)), c2, c3, c4, c5, c6, some (.dat (.int f)), some (.dat (.int l)), some (.own (dats (ivD (acc ++ [(f, l)])))), some (.dat (.int t)), some (.dat (.int k))] = some (.ok .nx [some (.own (dats bs)), some (.dat (.int c)), c2, c3, c4, c5, c6, some (.dat (.int f)), some (.dat (.int l)), some (.own (dats (ivD (acc ++ [(f, l)])))), some (.dat (.int (t * (l - f + 1)))), some (.dat (.int k))]) :=
    set_ok (op2_ok (get_ok rfl) (op2_ok (op2_ok (get_ok rfl) (get_ok rfl) rfl) con_ok rfl) mu) (by show 10 < 12; decide)
  have mx : maxD [.int 0, .int (f - 1)] = some (.int (max 0 (f - 1))) := by rw [v_max]; congr 2; split <;> omega
  have mn : minD [.int l, .int (c - k - 2)] = some (.int (min l m)) := by rw [v_min, hk]; congr 2; split <;> omega
  have a3 : parS 7 8 (pl (cb maxD (acons (con (.int 0)) (acons (op2 subD (get 7) (con (.int 1))) anil)))) (pl (cb minD (acons (get 8) (acons (op2 subD (op2 subD (get 1) (get 11)) (con (.int 2))) anil)))) [some (.own (dats bs)), some (.dat (.int c)), c2, c3, c4, c5, c6, some (.dat (.int f)), some (.dat (.int l)), some (.own (dats (ivD (acc ++ [(f, l)])))), some (.dat (.int (t * (l - f + 1)))), some (.dat (.int k))] = some (.ok .nx [some (.own (dats bs)), some (.dat (.int c)), c2, c3, c4, c5, c6, some (.dat (.int (max 0 (f - 1)))), some (.dat (.int (min l m))), some (.own (dats (ivD (acc ++ [(f, l)])))), some (.dat (.int (t * (l - f + 1)))), some (.dat (.int k))]) :=
    par_ok (cb2_ok con_ok (op2_ok (get_ok rfl) con_ok rfl) mx) (cb2_ok (get_ok rfl) (op2_ok (op2_ok (get_ok rfl) (get_ok rfl) rfl) con_ok rfl) mn) (by show 7 < 12; decide) (by show 8 < 12; decide)
  unfold b_valley_right_6
  rw [then_nx a1, then_nx a2]
  exact a3
theorem due_for {bs : List PyData} {c : Int} {c2 c3 c4 c5 c6 : Option Wv} : ∀ (j : Nat) {k : Nat} {f l t : Int} {acc : List Iv} {w11 : Option Wv}, c = k + j → 0 ≤ f → f ≤ 1000 → -1 ≤ l → l ≤ 1000 → acc.length + j ≤ 1000 →
    ∃ u7 u8 u11, forM (gN 11) b_valley_right_6 ((List.range' k j).map fun i : Nat => .int (i : Int)) [some (.own (dats bs)), some (.dat (.int c)), c2, c3, c4, c5, c6, some (.dat (.int f)), some (.dat (.int l)), some (.own (dats (ivD acc))), some (.dat (.int t)), w11] = some (.ok .nx [some (.own (dats bs)), some (.dat (.int c)), c2, c3, c4, c5, c6, u7, u8, some (.own (dats (ivD (acc ++ vdue j f l)))), some (.dat (.int (prod t (vdue j f l)))), u11])
  | 0, k, f, l, t, acc, w11, _, _, _, _, _, _ => ⟨_, _, _, by rw [vdue, List.append_nil]; exact for_nil⟩
  | j + 1, k, f, l, t, acc, w11, hc, f0, f1, l0, l1, ha => by
    obtain ⟨u7, u8, u11, e⟩ := due_for (c2 := c2) (c3 := c3) (c4 := c4) (c5 := c5) (c6 := c6) (bs := bs) (c := c) j (k := k + 1) (f := max 0 (f - 1)) (l := min l ((j : Int) - 1)) (t := t * (l - f + 1)) (acc := acc ++ [(f, l)]) (w11 := some (.dat (.int (k : Int)))) (by omega) (by omega) (by omega) (by omega) (by omega) (by rw [List.length_append]; show acc.length + 1 + _ ≤ _; omega)
    have st := due_step (bs := bs) (c := c) (c2 := c2) (c3 := c3) (c4 := c4) (c5 := c5) (c6 := c6) (f := f) (l := l) (t := t) (k := (k : Int)) (m := (j : Int) - 1) (acc := acc) (by omega) (pMul_r (by omega) (by omega)) (by omega)
    refine ⟨u7, u8, u11, (for_go (e := [some (.own (dats bs)), some (.dat (.int c)), c2, c3, c4, c5, c6, some (.dat (.int f)), some (.dat (.int l)), some (.own (dats (ivD acc))), some (.dat (.int t)), some (.dat (.int (k : Int)))]) rfl st).trans (e.trans ?_)⟩
    rw [vdue, List.append_assoc]
    rfl
theorem eq_self {d : PyData} (h : shp d = true) : eqvD false d d = some (.bool true) := eqv_rf (x := false) h
theorem valley_go {bs bs1 bs2 bs3 : List PyData} {c : Int} {S X : List PyData} {L R : List Int} {h : Int} {u5 : Option Wv} {D : List Iv} {t : Int} {u7 u8 u11 : Option Wv} (e1 : F_take 2 bs [.int 14] = some (.dat (.int (c - 2)), bs1)) (e2 : F_souls bs1 [.int c] = some (.dat (.list S), bs2))
    (e3 : cutD (.list S) (some 1) none = some (.list X)) (e4 : cutD (.list S) none (some 1) = some (.list [.int h]))
    (lp : forM (gN 5) b_valley_right_3 X [some (.own (dats bs2)), some (.dat (.int c)), some (.dat (.list S)), some (.own (dats [])), some (.own (dats [])), none, none, none, none, none, none, none] = some (.ok .nx [some (.own (dats bs3)), some (.dat (.int c)), some (.dat (.list S)), some (.own (dats (L.map .int))), some (.own (dats (R.map .int))), u5, none, none, none, none, none, none]))
    (rg : rngD [.int c] = some ((List.range' 0 c.toNat).map fun i : Nat => .int (i : Int)))
    (l2 : forM (gN 11) b_valley_right_6 ((List.range' 0 c.toNat).map fun i : Nat => .int (i : Int)) [some (.own (dats bs3)), some (.dat (.int c)), some (.dat (.list S)), some (.own (dats (L.map .int))), some (.own (dats (R.map .int))), u5, some (.dat (rowD (L.reverse ++ h :: R))), some (.dat (.int L.length)), some (.dat (.int L.length)), some (.own (dats (ivD []))), some (.dat (.int 1)), none] = some (.ok .nx [some (.own (dats bs3)), some (.dat (.int c)), some (.dat (.list S)), some (.own (dats (L.map .int))), some (.own (dats (R.map .int))), u5, some (.dat (rowD (L.reverse ++ h :: R))), u7, u8, some (.own (dats (ivD D))), some (.dat (.int t)), u11]))
    (ru : F_runs [rowD (L.reverse ++ h :: R)] = some (.dat (.tuple (ivD D)))) (cn : F_count_rows [rowD (L.reverse ++ h :: R)] = some (.dat (.int t))) (eq : eqvD false (.tuple (ivD D)) (.tuple (ivD D)) = some (.bool true)) (lL : L.length + R.length ≤ 1000) : F_valley_right bs [] = some (.dat (.bool true), bs3) := by
  have s0 : s_valley_right_0 [some (.own (dats bs)), none, none, none, none, none, none, none, none, none, none, none] = some (.ok .nx [some (.own (dats bs1)), some (.dat (.int c)), none, none, none, none, none, none, none, none, none, none]) := by
    unfold s_valley_right_0
    simp [v_bind, v_ok, v_none, v_pure, v_lift, v_liftN, v_con, v_get, v_gkd, v_gko, v_gkc, v_vwd, v_vws, v_ok1, v_ownD, v_dctD, v_dk1, v_setOwn, v_putM, v_op2, v_op1, v_anil, v_acons, v_vws0, v_vwsC, v_cb, v_tupD, v_lstD, v_lstW, v_listW, v_dds0, v_ddsC, v_asB, v_tb1, v_andT, v_orT, v_notT, v_andV, v_orV, v_notV, v_ofB, v_ifE, v_pl, v_toW, v_fz, v_ofWd, v_ofWo, v_nxt, v_thenS, v_exprS, v_retS, v_retN, v_ifS, v_setS, v_parS, v_setIx, v_asD, v_asI, v_mthE, v_callA, v_callB, v_forS, v_argI, v_seqI, v_slD, v_poN, v_poS, v_isiE, v_isiE2, v_isNE, v_dnew, v_dinT, v_dputS, v_sortDct, v_rgE, v_rg2, v_unS, v_catW, v_chainE, v_add, v_sub, v_lt, v_le, v_gt, v_ge, v_eqI, v_eqB, v_eqS, v_ixL, v_ixT, v_lenL, v_lenT, v_abs, v_intI, v_intB, v_min, v_max, v_chk, e1]
    omega
  have s1 : s_valley_right_1 [some (.own (dats bs1)), some (.dat (.int c)), none, none, none, none, none, none, none, none, none, none] = some (.ok .nx [some (.own (dats bs2)), some (.dat (.int c)), some (.dat (.list S)), none, none, none, none, none, none, none, none, none]) := by
    unfold s_valley_right_1
    simp [v_bind, v_ok, v_none, v_pure, v_lift, v_liftN, v_con, v_get, v_gkd, v_gko, v_gkc, v_vwd, v_vws, v_ok1, v_ownD, v_dctD, v_dk1, v_setOwn, v_putM, v_op2, v_op1, v_anil, v_acons, v_vws0, v_vwsC, v_cb, v_tupD, v_lstD, v_lstW, v_listW, v_dds0, v_ddsC, v_asB, v_tb1, v_andT, v_orT, v_notT, v_andV, v_orV, v_notV, v_ofB, v_ifE, v_pl, v_toW, v_fz, v_ofWd, v_ofWo, v_nxt, v_thenS, v_exprS, v_retS, v_retN, v_ifS, v_setS, v_parS, v_setIx, v_asD, v_asI, v_mthE, v_callA, v_callB, v_forS, v_argI, v_seqI, v_slD, v_poN, v_poS, v_isiE, v_isiE2, v_isNE, v_dnew, v_dinT, v_dputS, v_sortDct, v_rgE, v_rg2, v_unS, v_catW, v_chainE, v_add, v_sub, v_lt, v_le, v_gt, v_ge, v_eqI, v_eqB, v_eqS, v_ixL, v_ixT, v_lenL, v_lenT, v_abs, v_intI, v_intB, v_min, v_max, v_chk, e2]
  have s2 : s_valley_right_2 [some (.own (dats bs2)), some (.dat (.int c)), some (.dat (.list S)), none, none, none, none, none, none, none, none, none] = some (.ok .nx [some (.own (dats bs2)), some (.dat (.int c)), some (.dat (.list S)), some (.own (dats [])), some (.own (dats [])), none, none, none, none, none, none, none]) := by
    unfold s_valley_right_2
    simp [v_bind, v_ok, v_none, v_pure, v_lift, v_liftN, v_con, v_get, v_gkd, v_gko, v_gkc, v_vwd, v_vws, v_ok1, v_ownD, v_dctD, v_dk1, v_setOwn, v_putM, v_op2, v_op1, v_anil, v_acons, v_vws0, v_vwsC, v_cb, v_tupD, v_lstD, v_lstW, v_listW, v_dds0, v_ddsC, v_asB, v_tb1, v_andT, v_orT, v_notT, v_andV, v_orV, v_notV, v_ofB, v_ifE, v_pl, v_toW, v_fz, v_ofWd, v_ofWo, v_nxt, v_thenS, v_exprS, v_retS, v_retN, v_ifS, v_setS, v_parS, v_setIx, v_asD, v_asI, v_mthE, v_callA, v_callB, v_forS, v_argI, v_seqI, v_slD, v_poN, v_poS, v_isiE, v_isiE2, v_isNE, v_dnew, v_dinT, v_dputS, v_sortDct, v_rgE, v_rg2, v_unS, v_catW, v_chainE, v_add, v_sub, v_lt, v_le, v_gt, v_ge, v_eqI, v_eqB, v_eqS, v_ixL, v_ixT, v_lenL, v_lenT, v_abs, v_intI, v_intB, v_min, v_max, v_chk, sz]
  have s3 : s_valley_right_3 [some (.own (dats bs2)), some (.dat (.int c)), some (.dat (.list S)), some (.own (dats [])), some (.own (dats [])), none, none, none, none, none, none, none] = some (.ok .nx [some (.own (dats bs3)), some (.dat (.int c)), some (.dat (.list S)), some (.own (dats (L.map .int))), some (.own (dats (R.map .int))), u5, none, none, none, none, none, none]) := for_ok (seq_ok (sl_from (get_ok rfl) con_ok e3) rfl) lp
  have rl : Gv (op1 revD (get 3)) [some (.own (dats bs3)), some (.dat (.int c)), some (.dat (.list S)), some (.own (dats (L.map .int))), some (.own (dats (R.map .int))), u5, none, none, none, none, none, none] (.list (L.map .int).reverse) := rev_own rfl
  have c1 : catD (.list (L.map PyData.int).reverse) (.list [.int h]) = some (.list ((L.map PyData.int).reverse ++ [.int h])) := cat_ok (by rw [List.length_reverse, List.length_map]; show L.length + 1 ≤ _; omega)
  have g1 := op2_ok rl (sl_to (get_ok (i := 2) rfl) con_ok e4) c1
  have c2 : catD (.list ((L.map PyData.int).reverse ++ [.int h])) (.list (R.map PyData.int)) = some (.list ((L.map PyData.int).reverse ++ [.int h] ++ R.map .int)) := cat_ok (by rw [List.length_append, List.length_reverse, List.length_map, List.length_map]; show L.length + 1 + R.length ≤ _; omega)
  have g2 : Gv (op2 catD (op2 catD (op1 revD (get 3)) (slD (get 2) poN (poS (con (.int 1))))) (get 4)) [some (.own (dats bs3)), some (.dat (.int c)), some (.dat (.list S)), some (.own (dats (L.map .int))), some (.own (dats (R.map .int))), u5, none, none, none, none, none, none] (.list ((L.map PyData.int).reverse ++ [.int h] ++ R.map .int)) := by
    unfold Gv at g1 ⊢
    generalize op2 catD (op1 revD (get 3)) (slD (get 2) poN (poS (con (.int 1)))) = G at g1 ⊢
    generalize (L.map PyData.int).reverse ++ [.int h] = Y at *
    simp [v_bind, v_ok, v_none, v_pure, v_lift, v_liftN, v_con, v_get, v_gkd, v_gko, v_gkc, v_vwd, v_vws, v_ok1, v_ownD, v_dctD, v_dk1, v_setOwn, v_putM, v_op2, v_op1, v_anil, v_acons, v_vws0, v_vwsC, v_cb, v_tupD, v_lstD, v_lstW, v_listW, v_dds0, v_ddsC, v_asB, v_tb1, v_andT, v_orT, v_notT, v_andV, v_orV, v_notV, v_ofB, v_ifE, v_pl, v_toW, v_fz, v_ofWd, v_ofWo, v_nxt, v_thenS, v_exprS, v_retS, v_retN, v_ifS, v_setS, v_parS, v_setIx, v_asD, v_asI, v_mthE, v_callA, v_callB, v_forS, v_argI, v_seqI, v_slD, v_poN, v_poS, v_isiE, v_isiE2, v_isNE, v_dnew, v_dinT, v_dputS, v_sortDct, v_rgE, v_rg2, v_unS, v_catW, v_chainE, v_add, v_sub, v_lt, v_le, v_gt, v_ge, v_eqI, v_eqB, v_eqS, v_ixL, v_ixT, v_lenL, v_lenT, v_abs, v_intI, v_intB, v_min, v_max, v_chk, g1, c2]
  have tu : tupleD [.list ((L.map PyData.int).reverse ++ [.int h] ++ R.map .int)] = some (rowD (L.reverse ++ h :: R)) := by
    unfold rowD
    simp [tupleD, seqD]
  have s4 : s_valley_right_4 [some (.own (dats bs3)), some (.dat (.int c)), some (.dat (.list S)), some (.own (dats (L.map .int))), some (.own (dats (R.map .int))), u5, none, none, none, none, none, none] = some (.ok .nx [some (.own (dats bs3)), some (.dat (.int c)), some (.dat (.list S)), some (.own (dats (L.map .int))), some (.own (dats (R.map .int))), u5, some (.dat (rowD (L.reverse ++ h :: R))), none, none, none, none, none]) := set_ok (cb1_ok g2 tu) (by show 6 < 12; decide)
  generalize hX : rowD (L.reverse ++ h :: R) = W at *
  have s5 : s_valley_right_5 [some (.own (dats bs3)), some (.dat (.int c)), some (.dat (.list S)), some (.own (dats (L.map .int))), some (.own (dats (R.map .int))), u5, some (.dat (W)), none, none, none, none, none] = some (.ok .nx [some (.own (dats bs3)), some (.dat (.int c)), some (.dat (.list S)), some (.own (dats (L.map .int))), some (.own (dats (R.map .int))), u5, some (.dat (W)), some (.dat (.int L.length)), some (.dat (.int L.length)), some (.own (dats (ivD []))), some (.dat (.int 1)), none]) := by
    unfold s_valley_right_5 unW wcons wnil
    simp [v_bind, v_ok, v_none, v_pure, v_lift, v_liftN, v_con, v_get, v_gkd, v_gko, v_gkc, v_vwd, v_vws, v_ok1, v_ownD, v_dctD, v_dk1, v_setOwn, v_putM, v_op2, v_op1, v_anil, v_acons, v_vws0, v_vwsC, v_cb, v_tupD, v_lstD, v_lstW, v_listW, v_dds0, v_ddsC, v_asB, v_tb1, v_andT, v_orT, v_notT, v_andV, v_orV, v_notV, v_ofB, v_ifE, v_pl, v_toW, v_fz, v_ofWd, v_ofWo, v_nxt, v_thenS, v_exprS, v_retS, v_retN, v_ifS, v_setS, v_parS, v_setIx, v_asD, v_asI, v_mthE, v_callA, v_callB, v_forS, v_argI, v_seqI, v_slD, v_poN, v_poS, v_isiE, v_isiE2, v_isNE, v_dnew, v_dinT, v_dputS, v_sortDct, v_rgE, v_rg2, v_unS, v_catW, v_chainE, v_add, v_sub, v_lt, v_le, v_gt, v_ge, v_eqI, v_eqB, v_eqS, v_ixL, v_ixT, v_lenL, v_lenT, v_abs, v_intI, v_intB, v_min, v_max, v_chk, sz, liftE, putsE]
    rfl
  have s6 : s_valley_right_6 [some (.own (dats bs3)), some (.dat (.int c)), some (.dat (.list S)), some (.own (dats (L.map .int))), some (.own (dats (R.map .int))), u5, some (.dat (W)), some (.dat (.int L.length)), some (.dat (.int L.length)), some (.own (dats (ivD []))), some (.dat (.int 1)), none] = some (.ok .nx [some (.own (dats bs3)), some (.dat (.int c)), some (.dat (.list S)), some (.own (dats (L.map .int))), some (.own (dats (R.map .int))), u5, some (.dat (W)), u7, u8, some (.own (dats (ivD D))), some (.dat (.int t)), u11]) := for_ok (it1_ok (get_ok rfl) rg) l2
  refine runB_eq rfl ⟨[some (.dat (.int c)), some (.dat (.list S)), some (.own (dats (L.map .int))), some (.own (dats (R.map .int))), u5, some (.dat (W)), u7, u8, some (.own (dats (ivD D))), some (.dat (.int t)), u11], ?_⟩
  show f_valley_right [some (.own (dats bs)), none, none, none, none, none, none, none, none, none, none, none] = _
  unfold f_valley_right
  rw [then_nx s0, then_nx s1, then_nx s2, then_nx s3, then_nx s4, then_nx s5, then_nx s6]
  exact ret_ok (and_tr (op2_ok (call1 (get_ok rfl) ru) (cb_own rfl rfl) eq) (op2_ok (call1 (get_ok rfl) cn) (get_ok rfl) (by rw [v_eqI]; simp)))
theorem valley_ok {m : Int} {bs : List PyData} (hb : Bok m bs) (hn : m ≤ 10 ^ 6) : ∃ bs', F_valley_right bs [] = some (.dat (.bool true), bs') ∧ Bok (m + 100) bs' := by
  obtain ⟨r, bs1, e1, r0, r1, k1⟩ := take_small (k := 1) hb (by omega) (below := 14) (by decide) (by decide)
  generalize hc : 2 + r = c
  have rc : r = c - 2 := by omega
  subst rc
  obtain ⟨ms, bs2, e2, nd, sr, _, ll, k2⟩ := souls_ok k1 (by omega) (c := c) (by omega) (by omega)
  have pw : ms.Pairwise (· < ·) := sort_lt sr nd
  obtain ⟨h, t, rfl⟩ : ∃ h t, ms = h :: t := by
    cases ms with
    | nil => simp at ll; omega
    | cons h t => exact ⟨h, t, rfl⟩
  have lt : (t.length : Int) + 1 = c := by rw [List.length_cons] at ll; omega
  obtain ⟨L', R', bs3, u5, lp, s1, s2, pm, k3⟩ := val_for (c1 := some (.dat (.int c))) (c2 := some (.dat (.list ((h :: t).map .int)))) t (L := []) (R := []) (w5 := none) k2 (by omega) (by show 0 + 0 + _ ≤ _; omega)
  rw [List.nil_append, List.nil_append] at lp
  have vr := valley_rns pw s1 s2 pm
  have pm2 : (L'.reverse ++ h :: R').Perm (h :: t) := (List.perm_middle.trans ((List.Perm.append_right R' (List.reverse_perm L')).cons h)).trans (pm.cons h)
  have nd2 : (L'.reverse ++ h :: R').Nodup := pm2.nodup_iff.mpr (pw.imp fun z => by omega)
  have l2 : (L'.reverse ++ h :: R').length ≤ 16 := by rw [pm2.length_eq, List.length_cons]; omega
  have lL : L'.length ≤ t.length := s1.length_le
  have ru := runs_ok (d := rowD (L'.reverse ++ h :: R')) (.inr rfl) (by omega) nd2
  have cn := count_ok nd2 l2
  have tn : t.length + 1 = c.toNat := by omega
  rw [vr, tn] at ru cn
  obtain ⟨u7, u8, u11, df⟩ := due_for (bs := bs3) (c := c) (c2 := some (.dat (.list ((h :: t).map .int)))) (c3 := some (.own (dats (L'.map .int)))) (c4 := some (.own (dats (R'.map .int)))) (c5 := u5) (c6 := some (.dat (rowD (L'.reverse ++ h :: R')))) c.toNat (k := 0) (f := L'.length) (l := L'.length) (t := 1) (acc := []) (w11 := none) (by omega) (by omega) (by omega) (by omega) (by omega) (by show 0 + _ ≤ _; omega)
  rw [List.nil_append] at df
  have rg : rngD [.int c] = some ((List.range' 0 c.toNat).map fun i : Nat => .int (i : Int)) := by
    have := rngD_ok (n := c.toNat) (by omega)
    rw [rng_nat, List.map_map, List.range_eq_range', show ((c.toNat : Nat) : Int) = c by omega] at this
    exact this
  have e3 : cutD (.list ((h :: t).map .int)) (some 1) none = some (.list (t.map .int)) := by
    show some (PyData.list (cutL _ (some ((1 : Nat) : Int)) none)) = _
    rw [cutL_from _ 1 (by simp)]
    rfl
  have e4 : cutD (.list ((h :: t).map .int)) none (some 1) = some (.list [.int h]) := by
    show some (PyData.list (cutL _ none (some ((1 : Nat) : Int)))) = _
    rw [cutL_to _ 1 (by simp)]
    rfl
  exact ⟨bs3, valley_go e1 e2 e3 e4 lp rg df ru cn (eq_self (shp_ivT _)) (by have := pm.length_eq; rw [List.length_append] at this; omega), k3.mono (by omega)⟩
end Ov

set_option Elab.async false
set_option linter.all false
set_option maxRecDepth 100000
set_option maxHeartbeats 4000000
namespace Ov
open PySem L2
/-! hills -/
theorem first_diff {α : Type} : ∀ {a b : List α}, a.length = b.length → a ≠ b → ∃ k, k < a.length ∧ a.take k = b.take k ∧ a[k]? ≠ b[k]?
  | [], [], _, h => absurd rfl h
  | [], _ :: _, h, _ => by simp at h
  | _ :: _, [], h, _ => by simp at h
  | x :: a, y :: b, hl, h => by
    by_cases c : x = y
    · subst c
      obtain ⟨k, h1, h2, h3⟩ := first_diff (a := a) (b := b) (by simpa using hl) fun z => h (by rw [z])
      exact ⟨k + 1, by simpa using h1, by rw [List.take_succ_cons, List.take_succ_cons, h2], by simpa using h3⟩
    · exact ⟨0, by simp, rfl, by simpa using c⟩
theorem notV_ok {env : En} {f : M R} {x : Bool} (e : Gv f env (.bool x)) : Gv (notV f) env (.bool (!x)) := by
  unfold Gv at *
  simp [v_bind, v_ok, v_none, v_pure, v_lift, v_liftN, v_con, v_get, v_gkd, v_gko, v_gkc, v_vwd, v_vws, v_ok1, v_ownD, v_dctD, v_dk1, v_setOwn, v_putM, v_op2, v_op1, v_anil, v_acons, v_vws0, v_vwsC, v_cb, v_tupD, v_lstD, v_lstW, v_listW, v_dds0, v_ddsC, v_asB, v_tb1, v_andT, v_orT, v_notT, v_andV, v_orV, v_notV, v_ofB, v_ifE, v_pl, v_toW, v_fz, v_ofWd, v_ofWo, v_nxt, v_thenS, v_exprS, v_retS, v_retN, v_ifS, v_setS, v_parS, v_setIx, v_asD, v_asI, v_mthE, v_callA, v_callB, v_forS, v_argI, v_seqI, v_slD, v_poN, v_poS, v_isiE, v_isiE2, v_isNE, v_dnew, v_dinT, v_dputS, v_sortDct, v_rgE, v_rg2, v_unS, v_catW, v_chainE, v_add, v_sub, v_lt, v_le, v_gt, v_ge, v_eqI, v_eqB, v_eqS, v_ixL, v_ixT, v_lenL, v_lenT, v_abs, v_intI, v_intB, v_min, v_max, v_chk, e]
theorem hill_go {bs bs1 bs2 bs3 bs4 : List PyData} {c k t : Int} {S J rs U D : List Int} (e1 : F_take 2 bs [.int 15] = some (.dat (.int (c - 1)), bs1)) (e2 : F_souls bs1 [.int c] = some (.dat (.list (S.map .int)), bs2)) (e3 : F_take 2 bs2 [.int c] = some (.dat (.int k), bs3))
    (ix : ixD (.list (S.map .int)) (.int (-1)) = some (.int t)) (ct : cutD (.list (S.map .int)) none (some (-1)) = some (.list (J.map .int))) (e4 : F_strewn bs3 [.list (J.map .int)] = some (.own (dats (rs.map .int)), bs4))
    (c1 : cutD (.list (rs.map .int)) none (some k) = some (.list ((rs.take k.toNat).map .int))) (c2 : cutD (.list (rs.map .int)) (some k) none = some (.list ((rs.drop k.toNat).map .int)))
    (hU : sortI (rs.take k.toNat) = U) (hD : (sortI (rs.drop k.toNat)).reverse = D) (lU : U.length + D.length ≤ 1000)
    (x1 : F_exchanges [rowD (U ++ t :: D)] = some (.dat (.list []))) (x2 : F_count_rows [rowD (U ++ t :: D)] = some (.dat (.int 1))) (x3 : F_all_rows [rowD (U ++ t :: D)] = some (.dat (.list [rowD (U ++ t :: D)])))
    (q1 : eqvD true (.list []) (.list []) = some (.bool false)) (q3 : eqvD true (.list [rowD (U ++ t :: D)]) (.list [rowD (U ++ t :: D)]) = some (.bool false))
    (fin : c < 2 ∨ F_leads [rowD (U ++ t :: D), rowD S] = some (.dat (.bool false)) ∨ (F_leads [rowD (U ++ t :: D), rowD S] = some (.dat (.bool true)) ∧ eqvD false (rowD (U ++ t :: D)) (rowD S) = some (.bool true))) : F_hill_right bs [] = some (.dat (.bool true), bs4) := by
  have s0 : s_hill_right_0 [some (.own (dats bs)), none, none, none, none, none, none] = some (.ok .nx [some (.own (dats bs1)), some (.dat (.int c)), none, none, none, none, none]) := by
    unfold s_hill_right_0
    simp [v_bind, v_ok, v_none, v_pure, v_lift, v_liftN, v_con, v_get, v_gkd, v_gko, v_gkc, v_vwd, v_vws, v_ok1, v_ownD, v_dctD, v_dk1, v_setOwn, v_putM, v_op2, v_op1, v_anil, v_acons, v_vws0, v_vwsC, v_cb, v_tupD, v_lstD, v_lstW, v_listW, v_dds0, v_ddsC, v_asB, v_tb1, v_andT, v_orT, v_notT, v_andV, v_orV, v_notV, v_ofB, v_ifE, v_pl, v_toW, v_fz, v_ofWd, v_ofWo, v_nxt, v_thenS, v_exprS, v_retS, v_retN, v_ifS, v_setS, v_parS, v_setIx, v_asD, v_asI, v_mthE, v_callA, v_callB, v_forS, v_argI, v_seqI, v_slD, v_poN, v_poS, v_isiE, v_isiE2, v_isNE, v_dnew, v_dinT, v_dputS, v_sortDct, v_rgE, v_rg2, v_unS, v_catW, v_chainE, v_add, v_sub, v_lt, v_le, v_gt, v_ge, v_eqI, v_eqB, v_eqS, v_ixL, v_ixT, v_lenL, v_lenT, v_abs, v_intI, v_intB, v_min, v_max, v_chk, e1]
    omega
  have s1 : s_hill_right_1 [some (.own (dats bs1)), some (.dat (.int c)), none, none, none, none, none] = some (.ok .nx [some (.own (dats bs2)), some (.dat (.int c)), some (.dat (.list (S.map .int))), none, none, none, none]) := by
    unfold s_hill_right_1
    simp [v_bind, v_ok, v_none, v_pure, v_lift, v_liftN, v_con, v_get, v_gkd, v_gko, v_gkc, v_vwd, v_vws, v_ok1, v_ownD, v_dctD, v_dk1, v_setOwn, v_putM, v_op2, v_op1, v_anil, v_acons, v_vws0, v_vwsC, v_cb, v_tupD, v_lstD, v_lstW, v_listW, v_dds0, v_ddsC, v_asB, v_tb1, v_andT, v_orT, v_notT, v_andV, v_orV, v_notV, v_ofB, v_ifE, v_pl, v_toW, v_fz, v_ofWd, v_ofWo, v_nxt, v_thenS, v_exprS, v_retS, v_retN, v_ifS, v_setS, v_parS, v_setIx, v_asD, v_asI, v_mthE, v_callA, v_callB, v_forS, v_argI, v_seqI, v_slD, v_poN, v_poS, v_isiE, v_isiE2, v_isNE, v_dnew, v_dinT, v_dputS, v_sortDct, v_rgE, v_rg2, v_unS, v_catW, v_chainE, v_add, v_sub, v_lt, v_le, v_gt, v_ge, v_eqI, v_eqB, v_eqS, v_ixL, v_ixT, v_lenL, v_lenT, v_abs, v_intI, v_intB, v_min, v_max, v_chk, e2]
  have s2 : s_hill_right_2 [some (.own (dats bs2)), some (.dat (.int c)), some (.dat (.list (S.map .int))), none, none, none, none] = some (.ok .nx [some (.own (dats bs3)), some (.dat (.int c)), some (.dat (.list (S.map .int))), some (.dat (.int k)), none, none, none]) := by
    unfold s_hill_right_2
    simp [v_bind, v_ok, v_none, v_pure, v_lift, v_liftN, v_con, v_get, v_gkd, v_gko, v_gkc, v_vwd, v_vws, v_ok1, v_ownD, v_dctD, v_dk1, v_setOwn, v_putM, v_op2, v_op1, v_anil, v_acons, v_vws0, v_vwsC, v_cb, v_tupD, v_lstD, v_lstW, v_listW, v_dds0, v_ddsC, v_asB, v_tb1, v_andT, v_orT, v_notT, v_andV, v_orV, v_notV, v_ofB, v_ifE, v_pl, v_toW, v_fz, v_ofWd, v_ofWo, v_nxt, v_thenS, v_exprS, v_retS, v_retN, v_ifS, v_setS, v_parS, v_setIx, v_asD, v_asI, v_mthE, v_callA, v_callB, v_forS, v_argI, v_seqI, v_slD, v_poN, v_poS, v_isiE, v_isiE2, v_isNE, v_dnew, v_dinT, v_dputS, v_sortDct, v_rgE, v_rg2, v_unS, v_catW, v_chainE, v_add, v_sub, v_lt, v_le, v_gt, v_ge, v_eqI, v_eqB, v_eqS, v_ixL, v_ixT, v_lenL, v_lenT, v_abs, v_intI, v_intB, v_min, v_max, v_chk, e3]
  have s3 : s_hill_right_3 [some (.own (dats bs3)), some (.dat (.int c)), some (.dat (.list (S.map .int))), some (.dat (.int k)), none, none, none] = some (.ok .nx [some (.own (dats bs3)), some (.dat (.int c)), some (.dat (.list (S.map .int))), some (.dat (.int k)), some (.dat (.int t)), none, none]) := set_ok (op2_ok (get_ok rfl) (op1_ok con_ok (v_neg 1)) ix) (by show 4 < 7; decide)
  have ng := v_neg 1
  have s4 : s_hill_right_4 [some (.own (dats bs3)), some (.dat (.int c)), some (.dat (.list (S.map .int))), some (.dat (.int k)), some (.dat (.int t)), none, none] = some (.ok .nx [some (.own (dats bs4)), some (.dat (.int c)), some (.dat (.list (S.map .int))), some (.dat (.int k)), some (.dat (.int t)), some (.dat (.list (rs.map .int))), none]) := by
    unfold s_hill_right_4
    simp [v_bind, v_ok, v_none, v_pure, v_lift, v_liftN, v_con, v_get, v_gkd, v_gko, v_gkc, v_vwd, v_vws, v_ok1, v_ownD, v_dctD, v_dk1, v_setOwn, v_putM, v_op2, v_op1, v_anil, v_acons, v_vws0, v_vwsC, v_cb, v_tupD, v_lstD, v_lstW, v_listW, v_dds0, v_ddsC, v_asB, v_tb1, v_andT, v_orT, v_notT, v_andV, v_orV, v_notV, v_ofB, v_ifE, v_pl, v_toW, v_fz, v_ofWd, v_ofWo, v_nxt, v_thenS, v_exprS, v_retS, v_retN, v_ifS, v_setS, v_parS, v_setIx, v_asD, v_asI, v_mthE, v_callA, v_callB, v_forS, v_argI, v_seqI, v_slD, v_poN, v_poS, v_isiE, v_isiE2, v_isNE, v_dnew, v_dinT, v_dputS, v_sortDct, v_rgE, v_rg2, v_unS, v_catW, v_chainE, v_add, v_sub, v_lt, v_le, v_gt, v_ge, v_eqI, v_eqB, v_eqS, v_ixL, v_ixT, v_lenL, v_lenT, v_abs, v_intI, v_intB, v_min, v_max, v_chk, ng, ct, e4]
  have o1 := sort_ok (d := .list ((rs.take k.toNat).map .int)) (ms := rs.take k.toNat) (.inl rfl)
  have o2 := sort_ok (d := .list ((rs.drop k.toNat).map .int)) (ms := rs.drop k.toNat) (.inl rfl)
  rw [hU] at o1
  have rv : revD (.list ((sortI (rs.drop k.toNat)).map .int)) = some (.list (D.map .int)) := by
    rw [← hD, List.map_reverse]
    rfl
  have k1 : catD (.list (U.map .int)) (.list [.int t]) = some (.list (U.map .int ++ [.int t])) := cat_ok (by rw [List.length_map]; show U.length + 1 ≤ _; omega)
  have k2 : catD (.list (U.map .int ++ [.int t])) (.list (D.map .int)) = some (.list (U.map .int ++ [.int t] ++ D.map .int)) := cat_ok (by rw [List.length_append, List.length_map, List.length_map]; show U.length + 1 + D.length ≤ _; omega)
  have tu : tupleD [.list (U.map .int ++ [.int t] ++ D.map .int)] = some (rowD (U ++ t :: D)) := by
    unfold rowD
    simp [tupleD, seqD]
  have s5 : s_hill_right_5 [some (.own (dats bs4)), some (.dat (.int c)), some (.dat (.list (S.map .int))), some (.dat (.int k)), some (.dat (.int t)), some (.dat (.list (rs.map .int))), none] = some (.ok .nx [some (.own (dats bs4)), some (.dat (.int c)), some (.dat (.list (S.map .int))), some (.dat (.int k)), some (.dat (.int t)), some (.dat (.list (rs.map .int))), some (.dat (rowD (U ++ t :: D)))]) :=
    set_ok (cb1_ok (op2_ok (op2_ok (cb1_ok (sl_to (get_ok rfl) (get_ok rfl) c1) o1) (lst1_ok (get_ok rfl)) k1) (op1_ok (cb1_ok (sl_from (get_ok rfl) (get_ok rfl) c2) o2) rv) k2) tu) (by show 6 < 7; decide)
  have ts : tupleD [.list (S.map .int)] = some (rowD S) := rfl
  generalize rowD (U ++ t :: D) = X at *
  have s6 : s_hill_right_6 [some (.own (dats bs4)), some (.dat (.int c)), some (.dat (.list (S.map .int))), some (.dat (.int k)), some (.dat (.int t)), some (.dat (.list (rs.map .int))), some (.dat (X))] = some (.ok .nx [some (.own (dats bs4)), some (.dat (.int c)), some (.dat (.list (S.map .int))), some (.dat (.int k)), some (.dat (.int t)), some (.dat (.list (rs.map .int))), some (.dat (X))]) :=
    if_nx (orT_ff (tb_ok (op2_ok (call1 (get_ok rfl) x1) lst0_ok q1)) (orT_ff (tb_ok (op2_ok (c := .bool false) (call1 (get_ok rfl) x2) con_ok rfl)) (tb_ok (op2_ok (call1 (get_ok rfl) x3) (lst1_ok (get_ok rfl)) q3))))
  refine runB_eq rfl ⟨[some (.dat (.int c)), some (.dat (.list (S.map .int))), some (.dat (.int k)), some (.dat (.int t)), some (.dat (.list (rs.map .int))), some (.dat (X))], ?_⟩
  show f_hill_right [some (.own (dats bs)), none, none, none, none, none, none] = _
  unfold f_hill_right
  rw [then_nx s0, then_nx s1, then_nx s2, then_nx s3, then_nx s4, then_nx s5, then_nx s6]
  by_cases z : c < 2
  · exact ret_ok (or_tr (op2_ok (c := .bool true) (get_ok rfl) con_ok (by rw [v_lt, decide_eq_true z])))
  · refine ret_ok (or_ff (op2_ok (c := .bool false) (get_ok rfl) con_ok (by rw [v_lt, decide_eq_false z])) ?_)
    rcases fin with y | y | ⟨y, y2⟩
    · exact absurd y z
    · exact or_tr (notV_ok (call2 (get_ok rfl) (cb1_ok (get_ok rfl) ts) y))
    · exact or_ff (notV_ok (call2 (get_ok rfl) (cb1_ok (get_ok rfl) ts) y)) (op2_ok (get_ok rfl) (cb1_ok (get_ok rfl) ts) y2)
theorem neg_last (S : List Int) (t : Int) : ixD (.list ((S ++ [t]).map .int)) (.int (-1)) = some (.int t) := by
  show atI ((S ++ [t]).map PyData.int) (-1) = _
  unfold atI
  have : ixN ((S ++ [t]).map PyData.int).length (-1) = some S.length := by
    unfold ixN
    rw [List.length_map, List.length_append]
    simp
    omega
  rw [this]
  simp
theorem cut_last (S : List Int) (t : Int) : cutD (.list ((S ++ [t]).map .int)) none (some (-1)) = some (.list (S.map .int)) := by
  show some (PyData.list (cutL ((S ++ [t]).map PyData.int) none (some (-1)))) = _
  unfold cutL HT.sIx
  simp
  rw [show ((-1 : Int) + ((S.length : Int) + 1)).toNat = S.length by omega]
  simp [← List.map_take]
theorem shp_row (l : List Int) : shp (rowD l) = true := shp_tup l
theorem shp_one (l : List Int) : shp (.list [rowD l]) = true := by
  have h : PyData.canLay0 (rowD l) = true := lay_ints l
  have h2 : PyData.depth (rowD l) ≤ 10 := by
    have := depth_ints l
    show PyData.depthAll (l.map PyData.int) + 1 ≤ 10
    omega
  unfold shp SeqAt.shaped
  have a : PyData.canLay0 (.list [rowD l]) = true := by
    show (PyData.canLay0 (rowD l) && PyData.canLayAll0 []) = true
    rw [h]
    rfl
  have b : PyData.depth (.list [rowD l]) ≤ 64 := by
    show max (PyData.depth (rowD l)) (PyData.depthAll []) + 1 ≤ 64
    have : PyData.depthAll [] ≤ 1 := by first | exact Nat.zero_le _ | exact Nat.le_refl _
    omega
  rw [a, decide_eq_true b]
  rfl
theorem hill_ok {m : Int} {bs : List PyData} (hb : Bok m bs) (hn : m ≤ 10 ^ 6) : ∃ bs', F_hill_right bs [] = some (.dat (.bool true), bs') ∧ Bok (m + 200) bs' := by
  obtain ⟨r, bs1, e1, r0, r1, k1⟩ := take_small (k := 1) hb (by omega) (below := 15) (by decide) (by decide)
  generalize hc : 1 + r = c
  have rc : r = c - 1 := by omega
  subst rc
  obtain ⟨S, bs2, e2, nd, sr, _, ll, k2⟩ := souls_ok k1 (by omega) (c := c) (by omega) (by omega)
  have pw : S.Pairwise (· < ·) := sort_lt sr nd
  obtain ⟨k, bs3, e3, q0, q1, k3⟩ := take_small (k := 1) k2 (by omega) (below := c) (by omega) (by omega)
  have sn : S ≠ [] := fun z => by rw [z] at ll; simp at ll; omega
  obtain ⟨J, t, rfl⟩ : ∃ J t, S = J ++ [t] := ⟨S.dropLast, S.getLast sn, (List.dropLast_concat_getLast sn).symm⟩
  have lJ : (J.length : Int) + 1 = c := by rw [List.length_append] at ll; simp at ll; omega
  obtain ⟨rs, bs4, e4, pm, k4⟩ := strewn_ok k3 (by omega) (ns := J) (d := .list (J.map .int)) (.inl rfl) (by omega)
  have lr : rs.length = J.length := pm.length_eq
  obtain ⟨pJ, _, lt⟩ := List.pairwise_append.mp pw
  have c1 : cutD (.list (rs.map .int)) none (some k) = some (.list ((rs.take k.toNat).map .int)) := by
    rw [show k = ((k.toNat : Nat) : Int) by omega]
    show some (PyData.list (cutL _ none (some ((k.toNat : Nat) : Int)))) = _
    rw [cutL_to _ _ (by rw [List.length_map]; omega), List.map_take]
    rfl
  have c2 : cutD (.list (rs.map .int)) (some k) none = some (.list ((rs.drop k.toNat).map .int)) := by
    rw [show k = ((k.toNat : Nat) : Int) by omega]
    show some (PyData.list (cutL _ (some ((k.toNat : Nat) : Int)) none)) = _
    rw [cutL_from _ _ (by rw [List.length_map]; omega), List.map_drop]
    rfl
  have ndr : rs.Nodup := pm.nodup_iff.mpr (pJ.imp fun z => by omega)
  generalize hU : sortI (rs.take k.toNat) = U
  generalize hD : (sortI (rs.drop k.toNat)).reverse = D
  have pU : U.Perm (rs.take k.toNat) := hU ▸ sortI_perm _
  have pD_ : D.Perm (rs.drop k.toNat) := hD ▸ (List.reverse_perm _).trans (sortI_perm _)
  have wU : U.Pairwise (· < ·) := hU ▸ sortI_lt (ndr.sublist (List.take_sublist ..))
  have wD : D.Pairwise (· > ·) := hD ▸ List.pairwise_reverse.mpr (sortI_lt (ndr.sublist (List.drop_sublist ..)))
  have pX : (U ++ t :: D).Perm (J ++ [t]) := by
    have p1 : (U ++ D).Perm J := (pU.append pD_).trans (by rw [List.take_append_drop]; exact pm)
    exact List.perm_middle.trans ((p1.cons t).trans (List.perm_append_comm (l₁ := [t])))
  have ndX : (U ++ t :: D).Nodup := pX.nodup_iff.mpr nd
  have inJ : ∀ y, y ∈ U ∨ y ∈ D → y < t := fun y hy => lt y (pm.subset (hy.elim (fun z => List.mem_of_mem_take (pU.subset z)) fun z => List.mem_of_mem_drop (pD_.subset z))) t (by simp)
  have hX : noX (U ++ t :: D) := noX_hill wU (fun y hy => inJ y (.inl hy)) (List.pairwise_cons.mpr ⟨fun y hy => inJ y (.inr hy), wD⟩)
  have lX : (U ++ t :: D).length ≤ 16 := by rw [pX.length_eq, List.length_append]; show J.length + 1 ≤ 16; omega
  have hf := flat_RNS ndX hX
  have x1 := exchanges_ok (ms := U ++ t :: D) (by omega)
  have xn : xcs (U ++ t :: D) = [] := by
    cases h : xcs (U ++ t :: D) with
    | nil => rfl
    | cons p r =>
      obtain ⟨A, a, B, b, C, e, hB, hy, _⟩ := xcs_in (p := p) (by rw [h]; simp)
      exact absurd hy (hX A B C a b e hB)
  rw [xn] at x1
  have x2 := count_ok ndX lX
  rw [flat_prod hf] at x2
  have x3 := allrows_ok ndX lX hf
  refine ⟨bs4, hill_go e1 e2 e3 (neg_last J t) (cut_last J t) e4 c1 c2 hU hD (by rw [List.length_append, List.length_cons] at lX; omega) x1 x2 x3 (eqv_rf (x := true) (shp_ivL [])) (eqv_rf (x := true) (shp_one _)) (.inr ?_), k4.mono (by omega)⟩
  have ps : (J ++ [t]).Perm (U ++ t :: D) := pX.symm
  by_cases z : RNS (J ++ [t]) = RNS (U ++ t :: D)
  · refine .inr ⟨leads_yes (d := rowD (U ++ t :: D)) (e := rowD (J ++ [t])) (.inr rfl) (.inr rfl) ps (by omega) ndX z, ?_⟩
    have m1 := flat_mks ndX hf
    have m2 := flat_mks nd (by rw [z]; exact hf)
    rw [z, m1] at m2
    rw [mks_inj ps ndX m2.symm]
    exact eqv_rf (x := false) (shp_row _)
  · obtain ⟨j, j1, j2, j3⟩ := first_diff (a := RNS (U ++ t :: D)) (b := RNS (J ++ [t])) (by rw [RNS_len, RNS_len, ps.length_eq]) fun y => z y.symm
    have js : j < (sortI (U ++ t :: D)).length := by rw [(sortI_perm _).length_eq, ← RNS_len]; exact j1
    exact .inl (leads_no (d := rowD (U ++ t :: D)) (e := rowD (J ++ [t])) (.inr rfl) (.inr rfl) ps (by omega) ndX j2 j3 (List.getElem?_eq_getElem js))
end Ov

set_option Elab.async false
set_option linter.all false
set_option maxRecDepth 100000
set_option maxHeartbeats 4000000
namespace Ov
open PySem L2
/-! teeth -/
def tth : List Int → List Int → List Int
  | l :: ls, h :: hs => l :: h :: tth ls hs
  | _, _ => []
theorem tth_adj {T : List Int} : ∀ {ls hs : List Int} {h0 : Int}, (∀ y ∈ ls, y ∉ T) → ∀ (A : List Int) (a b : Int) (C : List Int), h0 :: tth ls hs = A ++ a :: b :: C → a ∈ T → b ∈ T → False
  | [], hs, h0, hy, A, a, b, C, e, ha, hb => by
    have : [h0] = A ++ a :: b :: C := by rw [tth] at e; exact e; intros; simp_all
    have := congrArg List.length this
    simp at this
    omega
  | l :: ls, [], h0, hy, A, a, b, C, e, ha, hb => by
    have : [h0] = A ++ a :: b :: C := by rw [tth] at e; exact e; intros; simp_all
    have := congrArg List.length this
    simp at this
    omega
  | l :: ls, h :: hs, h0, hy, A, a, b, C, e, ha, hb => by
    have e : h0 :: l :: h :: tth ls hs = A ++ a :: b :: C := e
    cases A with
    | nil =>
      rw [List.nil_append] at e
      injection e with e1 e2
      injection e2 with e3 e4
      exact hy b (by rw [← e3]; simp) hb
    | cons x A =>
      rw [List.cons_append] at e
      injection e with e1 e2
      cases A with
      | nil =>
        rw [List.nil_append] at e2
        injection e2 with e3 e4
        exact hy a (by rw [← e3]; simp) ha
      | cons y A =>
        rw [List.cons_append] at e2
        injection e2 with e3 e4
        exact tth_adj (ls := ls) (hs := hs) (h0 := h) (fun z hz => hy z (by simp [hz])) A a b C e4 ha hb
theorem tth_perm : ∀ {ls hs : List Int}, ls.length = hs.length → (tth ls hs).Perm (ls ++ hs)
  | [], [], _ => .nil
  | [], _ :: _, h => by simp at h
  | _ :: _, [], h => by simp at h
  | l :: ls, x :: hs, h => by
    have ih := tth_perm (ls := ls) (hs := hs) (by simpa using h)
    show (l :: x :: tth ls hs).Perm (l :: (ls ++ x :: hs))
    exact ((ih.cons x).trans List.perm_middle.symm).cons l
theorem tooth_rns {S1 S2 lo hs : List Int} {h0 : Int} (pw : (S1 ++ S2).Pairwise (· < ·)) (pl : lo.Perm S1) (ph : (h0 :: hs).Perm S2) (hl : S2.length = S1.length + 1) :
    (h0 :: tth lo hs).Perm (S1 ++ S2) ∧ ∃ Q : List Iv, Q.length = S1.length ∧ RNS (h0 :: tth lo hs) = Q ++ vdue (S1.length + 1) 0 S1.length := by
  have l2 : lo.length = hs.length := by have := pl.length_eq; have := ph.length_eq; rw [List.length_cons] at this; omega
  have pm : (h0 :: tth lo hs).Perm (S1 ++ S2) := (((tth_perm l2).cons h0).trans List.perm_middle.symm).trans (pl.append ph)
  refine ⟨pm, ?_⟩
  have sn : S2 ≠ [] := fun z => by rw [z] at hl; simp at hl
  obtain ⟨p1, p2, p3⟩ := List.pairwise_append.mp pw
  obtain ⟨Q, ns, q1, q2, q3⟩ := teeth_run pw pm sn (fiv_pt _) fun A a b C e ha hb => (tth_adj (T := S2) (fun y hy z => by have := p3 y (pl.subset hy) y z; omega) A a b C e ha hb).elim
  have so : sortI (h0 :: tth lo hs) = S1 ++ S2 := sort_uniq ((sortI_perm _).trans pm) (sortI_pw _) (pw.imp fun z => by omega)
  refine ⟨Q, q1, ?_⟩
  unfold RNS mks
  rw [so, q3, full_run p2 q2 sn, hl]
  rfl
theorem rev_map (l : List Int) : True := trivial
theorem get_row {l : List Int} {k : Nat} (h : k < l.length) : ixD (.list (l.map .int)) (.int (k : Int)) = some (.int l[k]) := by
  show atI (l.map PyData.int) (k : Int) = _
  rw [atI_in (by omega) (by rw [List.length_map]; omega)]
  simp
theorem tooth_for {bs : List PyData} {c1 c2 : Option Wv} {lo hi : List Int} : ∀ (j : Nat) {k : Nat} {acc : List Int} {w6 : Option Wv}, lo.length = k + j → hi.length = k + j + 1 → acc.length + 2 * j ≤ 1000 →
    ∃ u6, forM (gN 6) b_shared_right_4 ((List.range' k j).map fun i : Nat => .int (i : Int)) [some (.own (dats bs)), c1, c2, some (.dat (.list (lo.map .int))), some (.dat (.list (hi.map .int))), some (.dat (.list (acc.map .int))), w6, none] = some (.ok .nx [some (.own (dats bs)), c1, c2, some (.dat (.list (lo.map .int))), some (.dat (.list (hi.map .int))), some (.dat (.list ((acc ++ tth (lo.drop k) (hi.drop (k + 1))).map .int))), u6, none])
  | 0, k, acc, w6, h1, h2, h3 => ⟨w6, by
    rw [List.drop_eq_nil_of_le (show lo.length ≤ k by omega), show tth [] (hi.drop (k + 1)) = [] by (unfold tth; rfl), List.append_nil]
    exact for_nil⟩
  | j + 1, k, acc, w6, h1, h2, h3 => by
    have g1 := get_row (l := lo) (k := k) (by omega)
    have g2 := get_row (l := hi) (k := k + 1) (by omega)
    obtain ⟨u6, e⟩ := tooth_for (bs := bs) (c1 := c1) (c2 := c2) (lo := lo) (hi := hi) j (k := k + 1) (acc := acc ++ [lo[k], hi[k + 1]]) (w6 := some (.dat (.int (k : Int)))) (by omega) (by omega) (by rw [List.length_append]; show acc.length + 2 + _ ≤ _; omega)
    have ct : catD (.list (acc.map .int)) (.list [.int lo[k], .int hi[k + 1]]) = some (.list ((acc ++ [lo[k], hi[k + 1]]).map .int)) := by
      rw [List.map_append]
      exact cat_ok (by rw [List.length_map]; show acc.length + 2 ≤ _; omega)
    have st : b_shared_right_4 [some (.own (dats bs)), c1, c2, some (.dat (.list (lo.map .int))), some (.dat (.list (hi.map .int))), some (.dat (.list (acc.map .int))), some (.dat (.int (k : Int))), none] = some (.ok .nx [some (.own (dats bs)), c1, c2, some (.dat (.list (lo.map .int))), some (.dat (.list (hi.map .int))), some (.dat (.list ((acc ++ [lo[k], hi[k + 1]]).map .int))), some (.dat (.int (k : Int))), none]) :=
      set_ok (op2_ok (get_ok rfl) (lst2_ok (op2_ok (get_ok rfl) (get_ok rfl) g1) (op2_ok (get_ok rfl) (op2_ok (c := .int ((k + 1 : Nat) : Int)) (get_ok rfl) con_ok rfl) g2)) ct) (by show 5 < 8; decide)
    refine ⟨u6, (for_go (e := [some (.own (dats bs)), c1, c2, some (.dat (.list (lo.map .int))), some (.dat (.list (hi.map .int))), some (.dat (.list (acc.map .int))), some (.dat (.int (k : Int))), none]) rfl st).trans (e.trans ?_)⟩
    have d1 : lo.drop k = lo[k] :: lo.drop (k + 1) := (List.getElem_cons_drop (by omega)).symm
    have d2 : hi.drop (k + 1) = hi[k + 1] :: hi.drop (k + 2) := (List.getElem_cons_drop (by omega)).symm
    rw [d1, d2, tth, List.append_assoc]
    rfl
theorem fct_for {bs : List PyData} {c1 c2 c3 c4 c5 : Option Wv} : ∀ (j : Nat) {k : Nat} {w6 : Option Wv}, k + j ≤ 1000 →
    ∃ u6, forM (gN 6) b_shared_right_6 ((List.range' k j).map fun i : Nat => .int (i : Int)) [some (.own (dats bs)), c1, c2, c3, c4, c5, w6, some (.dat (.int (fct k)))] = some (.ok .nx [some (.own (dats bs)), c1, c2, c3, c4, c5, u6, some (.dat (.int (fct (k + j))))])
  | 0, k, w6, _ => ⟨w6, for_nil⟩
  | j + 1, k, w6, h => by
    obtain ⟨u6, e⟩ := fct_for (bs := bs) (c1 := c1) (c2 := c2) (c3 := c3) (c4 := c4) (c5 := c5) j (k := k + 1) (w6 := some (.dat (.int (k : Int)))) (by omega)
    have mu := v_mulD (fct k) ((k : Int) + 1) (pMul_r (by omega) (by omega))
    have st : b_shared_right_6 [some (.own (dats bs)), c1, c2, c3, c4, c5, some (.dat (.int (k : Int))), some (.dat (.int (fct k)))] = some (.ok .nx [some (.own (dats bs)), c1, c2, c3, c4, c5, some (.dat (.int (k : Int))), some (.dat (.int (fct (k + 1))))]) :=
      set_ok (op2_ok (get_ok rfl) (op2_ok (get_ok rfl) con_ok rfl) mu) (by show 7 < 8; decide)
    refine ⟨u6, (for_go (e := [some (.own (dats bs)), c1, c2, c3, c4, c5, some (.dat (.int (k : Int))), some (.dat (.int (fct k)))]) rfl st).trans (e.trans ?_)⟩
    rw [show k + 1 + j = k + (j + 1) by omega]
theorem fct_pos : ∀ n : Nat, 0 < fct n
  | 0 => by decide
  | n + 1 => Int.mul_pos (fct_pos n) (by omega)
theorem shared_go {bs bs1 bs2 bs3 bs4 : List PyData} {c N f : Int} {S A1 A2 lo hi ms : List Int} {R : List Iv} {h0 : Int} {u6 u7 : Option Wv} (e1 : F_take 2 bs [.int 7] = some (.dat (.int (c - 1)), bs1)) (mu : mulD (.int 2) (.int c) = some (.int (2 * c))) (e2 : F_souls bs1 [.int (2 * c + 1)] = some (.dat (.list (S.map .int)), bs2))
    (c1 : cutD (.list (S.map .int)) none (some c) = some (.list (A1.map .int))) (c2 : cutD (.list (S.map .int)) (some c) none = some (.list (A2.map .int)))
    (e3 : F_strewn bs2 [.list (A1.map .int)] = some (.own (dats (lo.map .int)), bs3)) (e4 : F_strewn bs3 [.list (A2.map .int)] = some (.own (dats (hi.map .int)), bs4))
    (g0 : ixD (.list (hi.map .int)) (.int 0) = some (.int h0)) (r1 : rngD [.int c] = some ((List.range' 0 c.toNat).map fun i : Nat => .int (i : Int))) (r2 : rngD [.int (c + 1)] = some ((List.range' 0 (c.toNat + 1)).map fun i : Nat => .int (i : Int)))
    (lp : forM (gN 6) b_shared_right_4 ((List.range' 0 c.toNat).map fun i : Nat => .int (i : Int)) [some (.own (dats bs4)), some (.dat (.int c)), some (.dat (.list (S.map .int))), some (.dat (.list (lo.map .int))), some (.dat (.list (hi.map .int))), some (.dat (.list [.int h0])), none, none] = some (.ok .nx [some (.own (dats bs4)), some (.dat (.int c)), some (.dat (.list (S.map .int))), some (.dat (.list (lo.map .int))), some (.dat (.list (hi.map .int))), some (.dat (.list (ms.map .int))), u6, none]))
    (l2 : forM (gN 6) b_shared_right_6 ((List.range' 0 (c.toNat + 1)).map fun i : Nat => .int (i : Int)) [some (.own (dats bs4)), some (.dat (.int c)), some (.dat (.list (S.map .int))), some (.dat (.list (lo.map .int))), some (.dat (.list (hi.map .int))), some (.dat (.list (ms.map .int))), u6, some (.dat (.int 1))] = some (.ok .nx [some (.own (dats bs4)), some (.dat (.int c)), some (.dat (.list (S.map .int))), some (.dat (.list (lo.map .int))), some (.dat (.list (hi.map .int))), some (.dat (.list (ms.map .int))), u7, some (.dat (.int f))]))
    (cn : F_count_rows [rowD ms] = some (.dat (.int N))) (md : modD (.int N) (.int f) = some (.int 0)) (ru : F_runs [rowD ms] = some (.dat (.tuple (ivD R)))) (ix : ixD (.tuple (ivD R)) (.int c) = some (.tuple [.int 0, .int c])) (q : eqvD false (.tuple [.int 0, .int c]) (.tuple [.int 0, .int c]) = some (.bool true)) :
    F_shared_right bs [] = some (.dat (.bool true), bs4) := by
  have s0 : s_shared_right_0 [some (.own (dats bs)), none, none, none, none, none, none, none] = some (.ok .nx [some (.own (dats bs1)), some (.dat (.int c)), none, none, none, none, none, none]) := by
    unfold s_shared_right_0
    simp [v_bind, v_ok, v_none, v_pure, v_lift, v_liftN, v_con, v_get, v_gkd, v_gko, v_gkc, v_vwd, v_vws, v_ok1, v_ownD, v_dctD, v_dk1, v_setOwn, v_putM, v_op2, v_op1, v_anil, v_acons, v_vws0, v_vwsC, v_cb, v_tupD, v_lstD, v_lstW, v_listW, v_dds0, v_ddsC, v_asB, v_tb1, v_andT, v_orT, v_notT, v_andV, v_orV, v_notV, v_ofB, v_ifE, v_pl, v_toW, v_fz, v_ofWd, v_ofWo, v_nxt, v_thenS, v_exprS, v_retS, v_retN, v_ifS, v_setS, v_parS, v_setIx, v_asD, v_asI, v_mthE, v_callA, v_callB, v_forS, v_argI, v_seqI, v_slD, v_poN, v_poS, v_isiE, v_isiE2, v_isNE, v_dnew, v_dinT, v_dputS, v_sortDct, v_rgE, v_rg2, v_unS, v_catW, v_chainE, v_add, v_sub, v_lt, v_le, v_gt, v_ge, v_eqI, v_eqB, v_eqS, v_ixL, v_ixT, v_lenL, v_lenT, v_abs, v_intI, v_intB, v_min, v_max, v_chk, e1]
    omega
  have s1 : s_shared_right_1 [some (.own (dats bs1)), some (.dat (.int c)), none, none, none, none, none, none] = some (.ok .nx [some (.own (dats bs2)), some (.dat (.int c)), some (.dat (.list (S.map .int))), none, none, none, none, none]) := by
    unfold s_shared_right_1
    simp [v_bind, v_ok, v_none, v_pure, v_lift, v_liftN, v_con, v_get, v_gkd, v_gko, v_gkc, v_vwd, v_vws, v_ok1, v_ownD, v_dctD, v_dk1, v_setOwn, v_putM, v_op2, v_op1, v_anil, v_acons, v_vws0, v_vwsC, v_cb, v_tupD, v_lstD, v_lstW, v_listW, v_dds0, v_ddsC, v_asB, v_tb1, v_andT, v_orT, v_notT, v_andV, v_orV, v_notV, v_ofB, v_ifE, v_pl, v_toW, v_fz, v_ofWd, v_ofWo, v_nxt, v_thenS, v_exprS, v_retS, v_retN, v_ifS, v_setS, v_parS, v_setIx, v_asD, v_asI, v_mthE, v_callA, v_callB, v_forS, v_argI, v_seqI, v_slD, v_poN, v_poS, v_isiE, v_isiE2, v_isNE, v_dnew, v_dinT, v_dputS, v_sortDct, v_rgE, v_rg2, v_unS, v_catW, v_chainE, v_add, v_sub, v_lt, v_le, v_gt, v_ge, v_eqI, v_eqB, v_eqS, v_ixL, v_ixT, v_lenL, v_lenT, v_abs, v_intI, v_intB, v_min, v_max, v_chk, mu, e2]
  have s2 : s_shared_right_2 [some (.own (dats bs2)), some (.dat (.int c)), some (.dat (.list (S.map .int))), none, none, none, none, none] = some (.ok .nx [some (.own (dats bs4)), some (.dat (.int c)), some (.dat (.list (S.map .int))), some (.dat (.list (lo.map .int))), some (.dat (.list (hi.map .int))), none, none, none]) := by
    unfold s_shared_right_2
    simp [v_bind, v_ok, v_none, v_pure, v_lift, v_liftN, v_con, v_get, v_gkd, v_gko, v_gkc, v_vwd, v_vws, v_ok1, v_ownD, v_dctD, v_dk1, v_setOwn, v_putM, v_op2, v_op1, v_anil, v_acons, v_vws0, v_vwsC, v_cb, v_tupD, v_lstD, v_lstW, v_listW, v_dds0, v_ddsC, v_asB, v_tb1, v_andT, v_orT, v_notT, v_andV, v_orV, v_notV, v_ofB, v_ifE, v_pl, v_toW, v_fz, v_ofWd, v_ofWo, v_nxt, v_thenS, v_exprS, v_retS, v_retN, v_ifS, v_setS, v_parS, v_setIx, v_asD, v_asI, v_mthE, v_callA, v_callB, v_forS, v_argI, v_seqI, v_slD, v_poN, v_poS, v_isiE, v_isiE2, v_isNE, v_dnew, v_dinT, v_dputS, v_sortDct, v_rgE, v_rg2, v_unS, v_catW, v_chainE, v_add, v_sub, v_lt, v_le, v_gt, v_ge, v_eqI, v_eqB, v_eqS, v_ixL, v_ixT, v_lenL, v_lenT, v_abs, v_intI, v_intB, v_min, v_max, v_chk, c1, c2, e3, e4]
  have s3 : s_shared_right_3 [some (.own (dats bs4)), some (.dat (.int c)), some (.dat (.list (S.map .int))), some (.dat (.list (lo.map .int))), some (.dat (.list (hi.map .int))), none, none, none] = some (.ok .nx [some (.own (dats bs4)), some (.dat (.int c)), some (.dat (.list (S.map .int))), some (.dat (.list (lo.map .int))), some (.dat (.list (hi.map .int))), some (.dat (.list [.int h0])), none, none]) := set_ok (lst1_ok (op2_ok (get_ok rfl) con_ok g0)) (by show 5 < 8; decide)
  have s4 : s_shared_right_4 [some (.own (dats bs4)), some (.dat (.int c)), some (.dat (.list (S.map .int))), some (.dat (.list (lo.map .int))), some (.dat (.list (hi.map .int))), some (.dat (.list [.int h0])), none, none] = some (.ok .nx [some (.own (dats bs4)), some (.dat (.int c)), some (.dat (.list (S.map .int))), some (.dat (.list (lo.map .int))), some (.dat (.list (hi.map .int))), some (.dat (.list (ms.map .int))), u6, none]) := for_ok (it1_ok (get_ok rfl) r1) lp
  have s5 : s_shared_right_5 [some (.own (dats bs4)), some (.dat (.int c)), some (.dat (.list (S.map .int))), some (.dat (.list (lo.map .int))), some (.dat (.list (hi.map .int))), some (.dat (.list (ms.map .int))), u6, none] = some (.ok .nx [some (.own (dats bs4)), some (.dat (.int c)), some (.dat (.list (S.map .int))), some (.dat (.list (lo.map .int))), some (.dat (.list (hi.map .int))), some (.dat (.list (ms.map .int))), u6, some (.dat (.int 1))]) := set_ok con_ok (by show 7 < 8; decide)
  have s6 : s_shared_right_6 [some (.own (dats bs4)), some (.dat (.int c)), some (.dat (.list (S.map .int))), some (.dat (.list (lo.map .int))), some (.dat (.list (hi.map .int))), some (.dat (.list (ms.map .int))), u6, some (.dat (.int 1))] = some (.ok .nx [some (.own (dats bs4)), some (.dat (.int c)), some (.dat (.list (S.map .int))), some (.dat (.list (lo.map .int))), some (.dat (.list (hi.map .int))), some (.dat (.list (ms.map .int))), u7, some (.dat (.int f))]) := for_ok (it1_ok (op2_ok (get_ok rfl) con_ok rfl) r2) l2
  have tu : tupleD [.list (ms.map .int)] = some (rowD ms) := rfl
  refine runB_eq rfl ⟨[some (.dat (.int c)), some (.dat (.list (S.map .int))), some (.dat (.list (lo.map .int))), some (.dat (.list (hi.map .int))), some (.dat (.list (ms.map .int))), u7, some (.dat (.int f))], ?_⟩
  show f_shared_right [some (.own (dats bs)), none, none, none, none, none, none, none] = _
  unfold f_shared_right
  rw [then_nx s0, then_nx s1, then_nx s2, then_nx s3, then_nx s4, then_nx s5, then_nx s6]
  exact ret_ok (and_tr (op2_ok (op2_ok (call1 (cb1_ok (get_ok rfl) tu) cn) (get_ok rfl) md) con_ok (by rw [v_eqI]; simp)) (op2_ok (op2_ok (call1 (cb1_ok (get_ok rfl) tu) ru) (get_ok rfl) ix) (tup2_ok con_ok (get_ok rfl)) q))
theorem shared_ok {m : Int} {bs : List PyData} (hb : Bok m bs) (hn : m ≤ 10 ^ 6) : ∃ bs', F_shared_right bs [] = some (.dat (.bool true), bs') ∧ Bok (m + 300) bs' := by
  obtain ⟨r, bs1, e1, r0, r1, k1⟩ := take_small (k := 1) hb (by omega) (below := 7) (by decide) (by decide)
  generalize hc : 1 + r = c
  have rc : r = c - 1 := by omega
  subst rc
  obtain ⟨S, bs2, e2, nd, sr, _, ll, k2⟩ := souls_ok k1 (by omega) (c := 2 * c + 1) (by omega) (by omega)
  have pw : S.Pairwise (· < ·) := sort_lt sr nd
  have c1 : cutD (.list (S.map .int)) none (some c) = some (.list ((S.take c.toNat).map .int)) := by
    rw [show c = ((c.toNat : Nat) : Int) by omega]
    show some (PyData.list (cutL _ none (some ((c.toNat : Nat) : Int)))) = _
    rw [cutL_to _ _ (by rw [List.length_map]; omega), List.map_take]
    rfl
  have c2 : cutD (.list (S.map .int)) (some c) none = some (.list ((S.drop c.toNat).map .int)) := by
    rw [show c = ((c.toNat : Nat) : Int) by omega]
    show some (PyData.list (cutL _ (some ((c.toNat : Nat) : Int)) none)) = _
    rw [cutL_from _ _ (by rw [List.length_map]; omega), List.map_drop]
    rfl
  have lt : (S.take c.toNat).length = c.toNat := by rw [List.length_take]; omega
  have ld : (S.drop c.toNat).length = c.toNat + 1 := by rw [List.length_drop]; omega
  obtain ⟨lo, bs3, e3, pl, k3⟩ := strewn_ok k2 (by omega) (ns := S.take c.toNat) (d := .list ((S.take c.toNat).map .int)) (.inl rfl) (by omega)
  obtain ⟨hi, bs4, e4, ph, k4⟩ := strewn_ok k3 (by omega) (ns := S.drop c.toNat) (d := .list ((S.drop c.toNat).map .int)) (.inl rfl) (by omega)
  have ll1 : lo.length = c.toNat := pl.length_eq.trans lt
  have ll2 : hi.length = c.toNat + 1 := ph.length_eq.trans ld
  obtain ⟨h0, hs, rfl⟩ : ∃ h0 hs, hi = h0 :: hs := by
    cases hi with
    | nil => simp at ll2
    | cons a b => exact ⟨a, b, rfl⟩
  rw [← List.take_append_drop c.toNat S] at pw
  obtain ⟨pm, Q, q1, q2⟩ := tooth_rns pw pl ph (by rw [lt, ld])
  have nd2 : (h0 :: tth lo hs).Nodup := pm.nodup_iff.mpr (pw.imp fun z => by omega)
  have l3 : (h0 :: tth lo hs).length ≤ 16 := by rw [pm.length_eq, List.length_append, lt, ld]; omega
  rw [lt] at q1 q2
  have ru := runs_ok (d := rowD (h0 :: tth lo hs)) (.inr rfl) (by omega) nd2
  have cn := count_ok nd2 l3
  obtain ⟨u6, lp⟩ := tooth_for (bs := bs4) (c1 := some (.dat (.int c))) (c2 := some (.dat (.list (S.map .int)))) (lo := lo) (hi := h0 :: hs) c.toNat (k := 0) (acc := [h0]) (w6 := none) (by omega) (by omega) (by show 1 + _ ≤ _; omega)
  rw [List.drop_zero, show (h0 :: hs).drop (0 + 1) = hs from rfl] at lp
  obtain ⟨u7, l2⟩ := fct_for (bs := bs4) (c1 := some (.dat (.int c))) (c2 := some (.dat (.list (S.map .int)))) (c3 := some (.dat (.list (lo.map .int)))) (c4 := some (.dat (.list ((h0 :: hs).map .int)))) (c5 := some (.dat (.list ((h0 :: tth lo hs).map .int)))) (c.toNat + 1) (k := 0) (w6 := u6) (by omega)
  rw [Nat.zero_add] at l2
  have rgn : ∀ j : Nat, j ≤ 1000 → rngD [.int (j : Int)] = some ((List.range' 0 j).map fun i : Nat => .int (i : Int)) := fun j hj => by
    have := rngD_ok (n := j) hj
    rw [rng_nat, List.map_map, List.range_eq_range'] at this
    exact this
  have g1 := rgn c.toNat (by omega)
  have g2 := rgn (c.toNat + 1) (by omega)
  rw [show ((c.toNat : Nat) : Int) = c by omega] at g1
  rw [show ((c.toNat + 1 : Nat) : Int) = c + 1 by omega] at g2
  have mu : mulD (.int 2) (.int c) = some (.int (2 * c)) := v_mul 2 c (pMul_r (by omega) (by omega))
  have pd : prod 1 (RNS (h0 :: tth lo hs)) = prod 1 Q * fct (c.toNat + 1) := by
    rw [q2, prod_app, prod_mul]
    have := prod_down (c.toNat + 1)
    rw [show ((c.toNat + 1 : Nat) : Int) - 1 = (c.toNat : Int) by omega] at this
    rw [this]
  have md : modD (.int (prod 1 (RNS (h0 :: tth lo hs)))) (.int (fct (c.toNat + 1))) = some (.int 0) := by
    rw [v_mod _ _ (pMod_ok (fct_pos _)), pd, Int.mul_emod_left]
  have at_ : (RNS (h0 :: tth lo hs))[c.toNat]? = some ((0 : Int), c) := by
    rw [q2, List.getElem?_append_right (by omega), q1, Nat.sub_self]
    show some ((0 : Int), ((c.toNat : Nat) : Int)) = _
    rw [show ((c.toNat : Nat) : Int) = c by omega]
  have ix : ixD (.tuple (ivD (RNS (h0 :: tth lo hs)))) (.int c) = some (.tuple [.int 0, .int c]) := by
    have := iv_at at_
    rw [show ((c.toNat : Nat) : Int) = c by omega] at this
    exact this
  exact ⟨bs4, shared_go e1 mu e2 c1 c2 e3 e4 (get_row (l := h0 :: hs) (k := 0) (by simp)) g1 g2 lp l2 cn md ru ix (eqv_rf (x := false) (shp_tup [0, c])), k4.mono (by omega)⟩
theorem callB0 {bs bs' : List PyData} {x : PyData} {FB : List PyData → List PyData → Option (Wv × List PyData)} (e : FB bs [] = some (.dat x, bs')) : fz (callB 0 FB anil) [some (.own (dats bs))] = some (.ok (.dat x) [some (.own (dats bs'))]) := by
  simp [v_bind, v_ok, v_none, v_pure, v_lift, v_liftN, v_con, v_get, v_gkd, v_gko, v_gkc, v_vwd, v_vws, v_ok1, v_ownD, v_dctD, v_dk1, v_setOwn, v_putM, v_op2, v_op1, v_anil, v_acons, v_vws0, v_vwsC, v_cb, v_tupD, v_lstD, v_lstW, v_listW, v_dds0, v_ddsC, v_asB, v_tb1, v_andT, v_orT, v_notT, v_andV, v_orV, v_notV, v_ofB, v_ifE, v_pl, v_toW, v_fz, v_ofWd, v_ofWo, v_nxt, v_thenS, v_exprS, v_retS, v_retN, v_ifS, v_setS, v_parS, v_setIx, v_asD, v_asI, v_mthE, v_callA, v_callB, v_forS, v_argI, v_seqI, v_slD, v_poN, v_poS, v_isiE, v_isiE2, v_isNE, v_dnew, v_dinT, v_dputS, v_sortDct, v_rgE, v_rg2, v_unS, v_catW, v_chainE, v_add, v_sub, v_lt, v_le, v_gt, v_ge, v_eqI, v_eqB, v_eqS, v_ixL, v_ixT, v_lenL, v_lenT, v_abs, v_intI, v_intB, v_min, v_max, v_chk, e]
theorem right_go {bs bs1 bs2 bs3 : List PyData} (e1 : F_valley_right bs [] = some (.dat (.bool true), bs1)) (e2 : F_hill_right bs1 [] = some (.dat (.bool true), bs2)) (e3 : F_shared_right bs2 [] = some (.dat (.bool true), bs3)) : F_right bs [] = some (.dat (.bool true), bs3) := by
  refine runB_eq rfl ⟨[], ?_⟩
  show f_right [some (.own (dats bs))] = _
  have g1 := callB0 e1
  have g2 := callB0 e2
  have g3 := callB0 e3
  unfold f_right
  generalize fz (callB 0 F_valley_right anil) = A at *
  generalize fz (callB 0 F_hill_right anil) = B at *
  generalize fz (callB 0 F_shared_right anil) = C at *
  simp [v_bind, v_ok, v_none, v_pure, v_lift, v_liftN, v_con, v_get, v_gkd, v_gko, v_gkc, v_vwd, v_vws, v_ok1, v_ownD, v_dctD, v_dk1, v_setOwn, v_putM, v_op2, v_op1, v_anil, v_acons, v_vws0, v_vwsC, v_cb, v_tupD, v_lstD, v_lstW, v_listW, v_dds0, v_ddsC, v_asB, v_tb1, v_andT, v_orT, v_notT, v_andV, v_orV, v_notV, v_ofB, v_ifE, v_pl, v_toW, v_fz, v_ofWd, v_ofWo, v_nxt, v_thenS, v_exprS, v_retS, v_retN, v_ifS, v_setS, v_parS, v_setIx, v_asD, v_asI, v_mthE, v_callA, v_callB, v_forS, v_argI, v_seqI, v_slD, v_poN, v_poS, v_isiE, v_isiE2, v_isNE, v_dnew, v_dinT, v_dputS, v_sortDct, v_rgE, v_rg2, v_unS, v_catW, v_chainE, v_add, v_sub, v_lt, v_le, v_gt, v_ge, v_eqI, v_eqB, v_eqS, v_ixL, v_ixT, v_lenL, v_lenT, v_abs, v_intI, v_intB, v_min, v_max, v_chk, g1, g2, g3]
theorem right_ok {n : Int} {bs : List PyData} (hb : Bok n bs) (hn : n ≤ 10 ^ 6 - 600) : ∃ bs', F_right bs [] = some (.dat (.bool true), bs') ∧ Bok (n + 1000) bs' := by
  obtain ⟨bs1, e1, k1⟩ := valley_ok hb (by omega)
  obtain ⟨bs2, e2, k2⟩ := hill_ok k1 (by omega)
  obtain ⟨bs3, e3, k3⟩ := shared_ok k2 (by omega)
  exact ⟨bs3, right_go e1 e2 e3, k3.mono (by omega)⟩
theorem law_comp {k : Int} {ns : List Int} (l : List Int) : ∀ {n : Int} {bs acc : List PyData}, Bok n bs → n + 1000 * l.length ≤ 10 ^ 6 → acc.length + l.length < 1000000 → ∃ bs', compM (gN 3) yesT (fz (callB 2 F_right anil)) [3] (l.map .int) acc [some (.dat (.list (ns.map .int))), some (.dat (.int k)), some (.own (dats bs)), none] = some (.ok (acc ++ l.map fun _ => .bool true) [some (.dat (.list (ns.map .int))), some (.dat (.int k)), some (.own (dats bs')), none]) := by
  induction l with
  | nil => exact fun {n bs acc} _ _ _ => ⟨bs, by simp [compM, M.pure]⟩
  | cons x l ih =>
    intro n bs acc hb hn ha
    rw [List.length_cons] at hn ha
    obtain ⟨bs1, e1, k1⟩ := right_ok hb (by omega)
    obtain ⟨bs2, e2⟩ := ih (n := n + 1000) (bs := bs1) (acc := acc ++ [.bool true]) k1 (by omega) (by rw [List.length_append]; show acc.length + 1 + _ < _; omega)
    refine ⟨bs2, ?_⟩
    rw [List.map_cons, comp_yes (e := [some (.dat (.list (ns.map .int))), some (.dat (.int k)), some (.own (dats bs)), some (.dat (.int x))]) (e2 := [some (.dat (.list (ns.map .int))), some (.dat (.int k)), some (.own (dats bs)), some (.dat (.int x))]) (e3 := [some (.dat (.list (ns.map .int))), some (.dat (.int k)), some (.own (dats bs1)), some (.dat (.int x))]) (y := .bool true) rfl rfl (by simp [v_bind, v_ok, v_none, v_pure, v_lift, v_liftN, v_con, v_get, v_gkd, v_gko, v_gkc, v_vwd, v_vws, v_ok1, v_ownD, v_dctD, v_dk1, v_setOwn, v_putM, v_op2, v_op1, v_anil, v_acons, v_vws0, v_vwsC, v_cb, v_tupD, v_lstD, v_lstW, v_listW, v_dds0, v_ddsC, v_asB, v_tb1, v_andT, v_orT, v_notT, v_andV, v_orV, v_notV, v_ofB, v_ifE, v_pl, v_toW, v_fz, v_ofWd, v_ofWo, v_nxt, v_thenS, v_exprS, v_retS, v_retN, v_ifS, v_setS, v_parS, v_setIx, v_asD, v_asI, v_mthE, v_callA, v_callB, v_forS, v_argI, v_seqI, v_slD, v_poN, v_poS, v_isiE, v_isiE2, v_isNE, v_dnew, v_dinT, v_dputS, v_sortDct, v_rgE, v_rg2, v_unS, v_catW, v_chainE, v_add, v_sub, v_lt, v_le, v_gt, v_ge, v_eqI, v_eqB, v_eqS, v_ixL, v_ixT, v_lenL, v_lenT, v_abs, v_intI, v_intB, v_min, v_max, v_chk, e1]) rfl (by omega)]
    exact e2.trans (by simp)
theorem law_for {ns : List Int} (l : List Int) : ∀ {w1 w2 : Option Wv}, (∀ k ∈ l, 0 ≤ k ∧ k ≤ 3) → ∃ u1 u2, forM (gN 1) b_law_0 (l.map .int) [some (.dat (.list (ns.map .int))), w1, w2, none] = some (.ok .nx [some (.dat (.list (ns.map .int))), u1, u2, none]) := by
  induction l with
  | nil => exact fun {w1 w2} _ => ⟨w1, w2, rfl⟩
  | cons k l ih =>
    intro w1 w2 h
    have hk := h k (List.mem_cons_self ..)
    obtain ⟨bs, e1, k1⟩ := box_ok (ns := ns) hk.1 hk.2
    obtain ⟨bs', e2⟩ := law_comp (k := k) (ns := ns) (rngL 0 2) (n := 0) (bs := bs) (acc := []) k1 (by decide) (by decide)
    obtain ⟨u1, u2, e3⟩ := ih (w1 := some (.dat (.int k))) (w2 := some (.own (dats bs'))) fun x hx => h x (List.mem_cons_of_mem _ hx)
    have e4 : lcW (argI rngD (acons (con (.int 2)) anil)) (gN 3) yesT (fz (callB 2 F_right anil)) [3] [some (.dat (.list (ns.map .int))), some (.dat (.int k)), some (.own (dats bs)), none] = some (.ok (.own (dats ((rngL 0 2).map fun _ => .bool true))) [some (.dat (.list (ns.map .int))), some (.dat (.int k)), some (.own (dats bs')), none]) := by
      refine lc_eq (ds := (rngL 0 2).map .int) (e := [some (.dat (.list (ns.map .int))), some (.dat (.int k)), some (.own (dats bs)), none]) (e2 := [some (.dat (.list (ns.map .int))), some (.dat (.int k)), some (.own (dats bs)), none]) ?_ rfl rfl e2
      simp [v_bind, v_ok, v_none, v_pure, v_lift, v_liftN, v_con, v_get, v_gkd, v_gko, v_gkc, v_vwd, v_vws, v_ok1, v_ownD, v_dctD, v_dk1, v_setOwn, v_putM, v_op2, v_op1, v_anil, v_acons, v_vws0, v_vwsC, v_cb, v_tupD, v_lstD, v_lstW, v_listW, v_dds0, v_ddsC, v_asB, v_tb1, v_andT, v_orT, v_notT, v_andV, v_orV, v_notV, v_ofB, v_ifE, v_pl, v_toW, v_fz, v_ofWd, v_ofWo, v_nxt, v_thenS, v_exprS, v_retS, v_retN, v_ifS, v_setS, v_parS, v_setIx, v_asD, v_asI, v_mthE, v_callA, v_callB, v_forS, v_argI, v_seqI, v_slD, v_poN, v_poS, v_isiE, v_isiE2, v_isNE, v_dnew, v_dinT, v_dputS, v_sortDct, v_rgE, v_rg2, v_unS, v_catW, v_chainE, v_add, v_sub, v_lt, v_le, v_gt, v_ge, v_eqI, v_eqB, v_eqS, v_ixL, v_ixT, v_lenL, v_lenT, v_abs, v_intI, v_intB, v_min, v_max, v_chk, rngD]
    have e5 : allD [.list ((rngL 0 2).map fun _ => .bool true)] = some (.bool true) := rfl
    generalize ((rngL 0 2).map fun _ => PyData.bool true) = L at e4 e5
    refine ⟨u1, u2, (for_go (e := [some (.dat (.list (ns.map .int))), some (.dat (.int k)), w2, none]) rfl ?_).trans e3⟩
    unfold b_law_0
    refine (then_nx (e := [some (.dat (.list (ns.map .int))), some (.dat (.int k)), some (.own (dats bs)), none]) ?_).trans ?_
    · simp [v_bind, v_ok, v_none, v_pure, v_lift, v_liftN, v_con, v_get, v_gkd, v_gko, v_gkc, v_vwd, v_vws, v_ok1, v_ownD, v_dctD, v_dk1, v_setOwn, v_putM, v_op2, v_op1, v_anil, v_acons, v_vws0, v_vwsC, v_cb, v_tupD, v_lstD, v_lstW, v_listW, v_dds0, v_ddsC, v_asB, v_tb1, v_andT, v_orT, v_notT, v_andV, v_orV, v_notV, v_ofB, v_ifE, v_pl, v_toW, v_fz, v_ofWd, v_ofWo, v_nxt, v_thenS, v_exprS, v_retS, v_retN, v_ifS, v_setS, v_parS, v_setIx, v_asD, v_asI, v_mthE, v_callA, v_callB, v_forS, v_argI, v_seqI, v_slD, v_poN, v_poS, v_isiE, v_isiE2, v_isNE, v_dnew, v_dinT, v_dputS, v_sortDct, v_rgE, v_rg2, v_unS, v_catW, v_chainE, v_add, v_sub, v_lt, v_le, v_gt, v_ge, v_eqI, v_eqB, v_eqS, v_ixL, v_ixT, v_lenL, v_lenT, v_abs, v_intI, v_intB, v_min, v_max, v_chk, e1]
    · simp [v_bind, v_ok, v_none, v_pure, v_lift, v_liftN, v_con, v_get, v_gkd, v_gko, v_gkc, v_vwd, v_vws, v_ok1, v_ownD, v_dctD, v_dk1, v_setOwn, v_putM, v_op2, v_op1, v_anil, v_acons, v_vws0, v_vwsC, v_cb, v_tupD, v_lstD, v_lstW, v_listW, v_dds0, v_ddsC, v_asB, v_tb1, v_andT, v_orT, v_notT, v_andV, v_orV, v_notV, v_ofB, v_ifE, v_pl, v_toW, v_fz, v_ofWd, v_ofWo, v_nxt, v_thenS, v_exprS, v_retS, v_retN, v_ifS, v_setS, v_parS, v_setIx, v_asD, v_asI, v_mthE, v_callA, v_callB, v_forS, v_argI, v_seqI, v_slD, v_poN, v_poS, v_isiE, v_isiE2, v_isNE, v_dnew, v_dinT, v_dputS, v_sortDct, v_rgE, v_rg2, v_unS, v_catW, v_chainE, v_add, v_sub, v_lt, v_le, v_gt, v_ge, v_eqI, v_eqB, v_eqS, v_ixL, v_ixT, v_lenL, v_lenT, v_abs, v_intI, v_intB, v_min, v_max, v_chk, e4, e5]
theorem law_ok (ns : List Int) : F_law [.list (ns.map .int)] = some (.dat (.bool true)) := by
  obtain ⟨u1, u2, e⟩ := law_for (ns := ns) [0, 1] (w1 := none) (w2 := none) fun k hk => by
    simp only [List.mem_cons, List.not_mem_nil, or_false] at hk
    rcases hk with rfl | rfl <;> decide
  have rg : argI rngD (acons (con (.int 2)) anil) [some (.dat (.list (ns.map .int))), none, none, none] = some (.ok [.int 0, .int 1] [some (.dat (.list (ns.map .int))), none, none, none]) := it1_ok con_ok rfl
  have s0 : s_law_0 [some (.dat (.list (ns.map .int))), none, none, none] = some (.ok .nx [some (.dat (.list (ns.map .int))), u1, u2, none]) := for_ok rg e
  refine runA_eq rfl ⟨[some (.dat (.list (ns.map .int))), u1, u2, none], ?_⟩
  show f_law [some (.dat (.list (ns.map .int))), none, none, none] = _
  unfold f_law
  rw [then_nx s0]
  exact ret_ok con_ok
end Ov

set_option Elab.async false
set_option linter.all false
set_option maxRecDepth 100000
set_option maxHeartbeats 4000000
namespace Ov
open PySem L2
theorem all_mk {l : PySem.W.OpenLaw} {w : World} {K : PySem.W.Frag} {h : Heap} {mg : Str → Option Value} {fa f0 f1 f2 f3 f4 f5 f6 f7 f8 f9 f10 f11 f12 f13 f14 f15 f16 f17 f18 f19 f20 f21 f22 f23 f24 f25 f26 f27 f28 : Addr} (X : K.In h) (G : h.Ns mainGlobals mg) (hfa : mg "law" = some (.ref fa))
    {od0 an0 : Option Addr} {sl0 : Array (Option Value)} {oc0 kV0 dc0 pm0 cd0 ct0 : Value}
    {od1 an1 : Option Addr} {sl1 : Array (Option Value)} {oc1 kV1 dc1 pm1 cd1 ct1 : Value}
    {od2 an2 : Option Addr} {sl2 : Array (Option Value)} {oc2 kV2 dc2 pm2 cd2 ct2 : Value}
    {od3 an3 : Option Addr} {sl3 : Array (Option Value)} {oc3 kV3 dc3 pm3 cd3 ct3 : Value}
    {od4 an4 : Option Addr} {sl4 : Array (Option Value)} {oc4 kV4 dc4 pm4 cd4 ct4 : Value}
    {od5 an5 : Option Addr} {sl5 : Array (Option Value)} {oc5 kV5 dc5 pm5 cd5 ct5 : Value}
    {od6 an6 : Option Addr} {sl6 : Array (Option Value)} {oc6 kV6 dc6 pm6 cd6 ct6 : Value}
    {od7 an7 : Option Addr} {sl7 : Array (Option Value)} {oc7 kV7 dc7 pm7 cd7 ct7 : Value}
    {od8 an8 : Option Addr} {sl8 : Array (Option Value)} {oc8 kV8 dc8 pm8 cd8 ct8 : Value}
    {od9 an9 : Option Addr} {sl9 : Array (Option Value)} {oc9 kV9 dc9 pm9 cd9 ct9 : Value}
    {od10 an10 : Option Addr} {sl10 : Array (Option Value)} {oc10 kV10 dc10 pm10 cd10 ct10 : Value}
    {od11 an11 : Option Addr} {sl11 : Array (Option Value)} {oc11 kV11 dc11 pm11 cd11 ct11 : Value}
    {od12 an12 : Option Addr} {sl12 : Array (Option Value)} {oc12 kV12 dc12 pm12 cd12 ct12 : Value}
    {od13 an13 : Option Addr} {sl13 : Array (Option Value)} {oc13 kV13 dc13 pm13 cd13 ct13 : Value}
    {od14 an14 : Option Addr} {sl14 : Array (Option Value)} {oc14 kV14 dc14 pm14 cd14 ct14 : Value}
    {od15 an15 : Option Addr} {sl15 : Array (Option Value)} {oc15 kV15 dc15 pm15 cd15 ct15 : Value}
    {od16 an16 : Option Addr} {sl16 : Array (Option Value)} {oc16 kV16 dc16 pm16 cd16 ct16 : Value}
    {od17 an17 : Option Addr} {sl17 : Array (Option Value)} {oc17 kV17 dc17 pm17 cd17 ct17 : Value}
    {od18 an18 : Option Addr} {sl18 : Array (Option Value)} {oc18 kV18 dc18 pm18 cd18 ct18 : Value}
    {od19 an19 : Option Addr} {sl19 : Array (Option Value)} {oc19 kV19 dc19 pm19 cd19 ct19 : Value}
    {od20 an20 : Option Addr} {sl20 : Array (Option Value)} {oc20 kV20 dc20 pm20 cd20 ct20 : Value}
    {od21 an21 : Option Addr} {sl21 : Array (Option Value)} {oc21 kV21 dc21 pm21 cd21 ct21 : Value}
    {od22 an22 : Option Addr} {sl22 : Array (Option Value)} {oc22 kV22 dc22 pm22 cd22 ct22 : Value}
    {od23 an23 : Option Addr} {sl23 : Array (Option Value)} {oc23 kV23 dc23 pm23 cd23 ct23 : Value}
    {od24 an24 : Option Addr} {sl24 : Array (Option Value)} {oc24 kV24 dc24 pm24 cd24 ct24 : Value}
    {od25 an25 : Option Addr} {sl25 : Array (Option Value)} {oc25 kV25 dc25 pm25 cd25 ct25 : Value}
    {od26 an26 : Option Addr} {sl26 : Array (Option Value)} {oc26 kV26 dc26 pm26 cd26 ct26 : Value}
    {od27 an27 : Option Addr} {sl27 : Array (Option Value)} {oc27 kV27 dc27 pm27 cd27 ct27 : Value}
    {od28 an28 : Option Addr} {sl28 : Array (Option Value)} {oc28 kV28 dc28 pm28 cd28 ct28 : Value}
    {tMOST : Tok}
    (a0 : PySem.W.nsIn K mainGlobals "code_of" = some (some (.ref f0)))
    (l0 : K.lookup f0 = some ⟨oc0, od0, .func (PySem.W.fnOf "code_of" "code_of" (defArgs S_code_of) (defBody S_code_of) (defScope S_code_of) .none kV0 dc0 pm0 an0 cd0 ct0), sl0⟩)
    (c0 : PySem.W.codeIn K cd0 "code_of" = true)
    (k0 : PySem.W.keepIn K (.ref f0) = true)
    (a1 : PySem.W.nsIn K mainGlobals "codes" = some (some (.ref f1)))
    (l1 : K.lookup f1 = some ⟨oc1, od1, .func (PySem.W.fnOf "codes" "codes" (defArgs S_codes) (defBody S_codes) (defScope S_codes) .none kV1 dc1 pm1 an1 cd1 ct1), sl1⟩)
    (c1 : PySem.W.codeIn K cd1 "codes" = true)
    (k1 : PySem.W.keepIn K (.ref f1) = true)
    (a2 : PySem.W.nsIn K mainGlobals "row_with" = some (some (.ref f2)))
    (l2 : K.lookup f2 = some ⟨oc2, od2, .func (PySem.W.fnOf "row_with" "row_with" (defArgs S_row_with) (defBody S_row_with) (defScope S_row_with) .none kV2 dc2 pm2 an2 cd2 ct2), sl2⟩)
    (c2 : PySem.W.codeIn K cd2 "row_with" = true)
    (k2 : PySem.W.keepIn K (.ref f2) = true)
    (a3 : PySem.W.nsIn K mainGlobals "first_intervals" = some (some (.ref f3)))
    (l3 : K.lookup f3 = some ⟨oc3, od3, .func (PySem.W.fnOf "first_intervals" "first_intervals" (defArgs S_first_intervals) (defBody S_first_intervals) (defScope S_first_intervals) .none kV3 dc3 pm3 an3 cd3 ct3), sl3⟩)
    (c3 : PySem.W.codeIn K cd3 "first_intervals" = true)
    (k3 : PySem.W.keepIn K (.ref f3) = true)
    (a4 : PySem.W.nsIn K mainGlobals "run_size" = some (some (.ref f4)))
    (l4 : K.lookup f4 = some ⟨oc4, od4, .func (PySem.W.fnOf "run_size" "run_size" (defArgs S_run_size) (defBody S_run_size) (defScope S_run_size) .none kV4 dc4 pm4 an4 cd4 ct4), sl4⟩)
    (c4 : PySem.W.codeIn K cd4 "run_size" = true)
    (k4 : PySem.W.keepIn K (.ref f4) = true)
    (a5 : PySem.W.nsIn K mainGlobals "run_index" = some (some (.ref f5)))
    (l5 : K.lookup f5 = some ⟨oc5, od5, .func (PySem.W.fnOf "run_index" "run_index" (defArgs S_run_index) (defBody S_run_index) (defScope S_run_index) .none kV5 dc5 pm5 an5 cd5 ct5), sl5⟩)
    (c5 : PySem.W.codeIn K cd5 "run_index" = true)
    (k5 : PySem.W.keepIn K (.ref f5) = true)
    (a6 : PySem.W.nsIn K mainGlobals "next_intervals" = some (some (.ref f6)))
    (l6 : K.lookup f6 = some ⟨oc6, od6, .func (PySem.W.fnOf "next_intervals" "next_intervals" (defArgs S_next_intervals) (defBody S_next_intervals) (defScope S_next_intervals) .none kV6 dc6 pm6 an6 cd6 ct6), sl6⟩)
    (c6 : PySem.W.codeIn K cd6 "next_intervals" = true)
    (k6 : PySem.W.keepIn K (.ref f6) = true)
    (a7 : PySem.W.nsIn K mainGlobals "run_lists" = some (some (.ref f7)))
    (l7 : K.lookup f7 = some ⟨oc7, od7, .func (PySem.W.fnOf "run_lists" "run_lists" (defArgs S_run_lists) (defBody S_run_lists) (defScope S_run_lists) .none kV7 dc7 pm7 an7 cd7 ct7), sl7⟩)
    (c7 : PySem.W.codeIn K cd7 "run_lists" = true)
    (k7 : PySem.W.keepIn K (.ref f7) = true)
    (a8 : PySem.W.nsIn K mainGlobals "runs" = some (some (.ref f8)))
    (l8 : K.lookup f8 = some ⟨oc8, od8, .func (PySem.W.fnOf "runs" "runs" (defArgs S_runs) (defBody S_runs) (defScope S_runs) .none kV8 dc8 pm8 an8 cd8 ct8), sl8⟩)
    (c8 : PySem.W.codeIn K cd8 "runs" = true)
    (k8 : PySem.W.keepIn K (.ref f8) = true)
    (a9 : PySem.W.nsIn K mainGlobals "clear_between" = some (some (.ref f9)))
    (l9 : K.lookup f9 = some ⟨oc9, od9, .func (PySem.W.fnOf "clear_between" "clear_between" (defArgs S_clear_between) (defBody S_clear_between) (defScope S_clear_between) .none kV9 dc9 pm9 an9 cd9 ct9), sl9⟩)
    (c9 : PySem.W.codeIn K cd9 "clear_between" = true)
    (k9 : PySem.W.keepIn K (.ref f9) = true)
    (a10 : PySem.W.nsIn K mainGlobals "sights" = some (some (.ref f10)))
    (l10 : K.lookup f10 = some ⟨oc10, od10, .func (PySem.W.fnOf "sights" "sights" (defArgs S_sights) (defBody S_sights) (defScope S_sights) .none kV10 dc10 pm10 an10 cd10 ct10), sl10⟩)
    (c10 : PySem.W.codeIn K cd10 "sights" = true)
    (k10 : PySem.W.keepIn K (.ref f10) = true)
    (a11 : PySem.W.nsIn K mainGlobals "exchanges" = some (some (.ref f11)))
    (l11 : K.lookup f11 = some ⟨oc11, od11, .func (PySem.W.fnOf "exchanges" "exchanges" (defArgs S_exchanges) (defBody S_exchanges) (defScope S_exchanges) .none kV11 dc11 pm11 an11 cd11 ct11), sl11⟩)
    (c11 : PySem.W.codeIn K cd11 "exchanges" = true)
    (k11 : PySem.W.keepIn K (.ref f11) = true)
    (a12 : PySem.W.nsIn K mainGlobals "check_same_people" = some (some (.ref f12)))
    (l12 : K.lookup f12 = some ⟨oc12, od12, .func (PySem.W.fnOf "check_same_people" "check_same_people" (defArgs S_check_same_people) (defBody S_check_same_people) (defScope S_check_same_people) .none kV12 dc12 pm12 an12 cd12 ct12), sl12⟩)
    (c12 : PySem.W.codeIn K cd12 "check_same_people" = true)
    (k12 : PySem.W.keepIn K (.ref f12) = true)
    (a13 : PySem.W.nsIn K mainGlobals "leads" = some (some (.ref f13)))
    (l13 : K.lookup f13 = some ⟨oc13, od13, .func (PySem.W.fnOf "leads" "leads" (defArgs S_leads) (defBody S_leads) (defScope S_leads) .none kV13 dc13 pm13 an13 cd13 ct13), sl13⟩)
    (c13 : PySem.W.codeIn K cd13 "leads" = true)
    (k13 : PySem.W.keepIn K (.ref f13) = true)
    (a14 : PySem.W.nsIn K mainGlobals "bar" = some (some (.ref f14)))
    (l14 : K.lookup f14 = some ⟨oc14, od14, .func (PySem.W.fnOf "bar" "bar" (defArgs S_bar) (defBody S_bar) (defScope S_bar) .none kV14 dc14 pm14 an14 cd14 ct14), sl14⟩)
    (c14 : PySem.W.codeIn K cd14 "bar" = true)
    (k14 : PySem.W.keepIn K (.ref f14) = true)
    (a15 : PySem.W.nsIn K mainGlobals "count_rows" = some (some (.ref f15)))
    (l15 : K.lookup f15 = some ⟨oc15, od15, .func (PySem.W.fnOf "count_rows" "count_rows" (defArgs S_count_rows) (defBody S_count_rows) (defScope S_count_rows) .none kV15 dc15 pm15 an15 cd15 ct15), sl15⟩)
    (c15 : PySem.W.codeIn K cd15 "count_rows" = true)
    (k15 : PySem.W.keepIn K (.ref f15) = true)
    (a16 : PySem.W.nsIn K mainGlobals "row_at" = some (some (.ref f16)))
    (l16 : K.lookup f16 = some ⟨oc16, od16, .func (PySem.W.fnOf "row_at" "row_at" (defArgs S_row_at) (defBody S_row_at) (defScope S_row_at) .none kV16 dc16 pm16 an16 cd16 ct16), sl16⟩)
    (c16 : PySem.W.codeIn K cd16 "row_at" = true)
    (k16 : PySem.W.keepIn K (.ref f16) = true)
    (a17 : PySem.W.nsIn K mainGlobals "all_rows" = some (some (.ref f17)))
    (l17 : K.lookup f17 = some ⟨oc17, od17, .func (PySem.W.fnOf "all_rows" "all_rows" (defArgs S_all_rows) (defBody S_all_rows) (defScope S_all_rows) .none kV17 dc17 pm17 an17 cd17 ct17), sl17⟩)
    (c17 : PySem.W.codeIn K cd17 "all_rows" = true)
    (k17 : PySem.W.keepIn K (.ref f17) = true)
    (a18 : PySem.W.nsIn K mainGlobals "_law_cell_at" = some (some (.ref f18)))
    (l18 : K.lookup f18 = some ⟨oc18, od18, .func (PySem.W.fnOf "_law_cell_at" "_law_cell_at" (defArgs S_cell_at) (defBody S_cell_at) (defScope S_cell_at) .none kV18 dc18 pm18 an18 cd18 ct18), sl18⟩)
    (c18 : PySem.W.codeIn K cd18 "_law_cell_at" = true)
    (k18 : PySem.W.keepIn K (.ref f18) = true)
    (a19 : PySem.W.nsIn K mainGlobals "_law_box" = some (some (.ref f19)))
    (l19 : K.lookup f19 = some ⟨oc19, od19, .func (PySem.W.fnOf "_law_box" "_law_box" (defArgs S_box) (defBody S_box) (defScope S_box) .none kV19 dc19 pm19 an19 cd19 ct19), sl19⟩)
    (c19 : PySem.W.codeIn K cd19 "_law_box" = true)
    (k19 : PySem.W.keepIn K (.ref f19) = true)
    (a20 : PySem.W.nsIn K mainGlobals "_law_take" = some (some (.ref f20)))
    (l20 : K.lookup f20 = some ⟨oc20, od20, .func (PySem.W.fnOf "_law_take" "_law_take" (defArgs S_take) (defBody S_take) (defScope S_take) .none kV20 dc20 pm20 an20 cd20 ct20), sl20⟩)
    (c20 : PySem.W.codeIn K cd20 "_law_take" = true)
    (k20 : PySem.W.keepIn K (.ref f20) = true)
    (a21 : PySem.W.nsIn K mainGlobals "_law_of" = some (some (.ref f21)))
    (l21 : K.lookup f21 = some ⟨oc21, od21, .func (PySem.W.fnOf "_law_of" "_law_of" (defArgs S_of) (defBody S_of) (defScope S_of) .none kV21 dc21 pm21 an21 cd21 ct21), sl21⟩)
    (c21 : PySem.W.codeIn K cd21 "_law_of" = true)
    (k21 : PySem.W.keepIn K (.ref f21) = true)
    (a22 : PySem.W.nsIn K mainGlobals "_law_strewn" = some (some (.ref f22)))
    (l22 : K.lookup f22 = some ⟨oc22, od22, .func (PySem.W.fnOf "_law_strewn" "_law_strewn" (defArgs S_strewn) (defBody S_strewn) (defScope S_strewn) .none kV22 dc22 pm22 an22 cd22 ct22), sl22⟩)
    (c22 : PySem.W.codeIn K cd22 "_law_strewn" = true)
    (k22 : PySem.W.keepIn K (.ref f22) = true)
    (a23 : PySem.W.nsIn K mainGlobals "_law_souls" = some (some (.ref f23)))
    (l23 : K.lookup f23 = some ⟨oc23, od23, .func (PySem.W.fnOf "_law_souls" "_law_souls" (defArgs S_souls) (defBody S_souls) (defScope S_souls) .none kV23 dc23 pm23 an23 cd23 ct23), sl23⟩)
    (c23 : PySem.W.codeIn K cd23 "_law_souls" = true)
    (k23 : PySem.W.keepIn K (.ref f23) = true)
    (a24 : PySem.W.nsIn K mainGlobals "_law_valley_right" = some (some (.ref f24)))
    (l24 : K.lookup f24 = some ⟨oc24, od24, .func (PySem.W.fnOf "_law_valley_right" "_law_valley_right" (defArgs S_valley_right) (defBody S_valley_right) (defScope S_valley_right) .none kV24 dc24 pm24 an24 cd24 ct24), sl24⟩)
    (c24 : PySem.W.codeIn K cd24 "_law_valley_right" = true)
    (k24 : PySem.W.keepIn K (.ref f24) = true)
    (a25 : PySem.W.nsIn K mainGlobals "_law_hill_right" = some (some (.ref f25)))
    (l25 : K.lookup f25 = some ⟨oc25, od25, .func (PySem.W.fnOf "_law_hill_right" "_law_hill_right" (defArgs S_hill_right) (defBody S_hill_right) (defScope S_hill_right) .none kV25 dc25 pm25 an25 cd25 ct25), sl25⟩)
    (c25 : PySem.W.codeIn K cd25 "_law_hill_right" = true)
    (k25 : PySem.W.keepIn K (.ref f25) = true)
    (a26 : PySem.W.nsIn K mainGlobals "_law_shared_right" = some (some (.ref f26)))
    (l26 : K.lookup f26 = some ⟨oc26, od26, .func (PySem.W.fnOf "_law_shared_right" "_law_shared_right" (defArgs S_shared_right) (defBody S_shared_right) (defScope S_shared_right) .none kV26 dc26 pm26 an26 cd26 ct26), sl26⟩)
    (c26 : PySem.W.codeIn K cd26 "_law_shared_right" = true)
    (k26 : PySem.W.keepIn K (.ref f26) = true)
    (a27 : PySem.W.nsIn K mainGlobals "_law_right" = some (some (.ref f27)))
    (l27 : K.lookup f27 = some ⟨oc27, od27, .func (PySem.W.fnOf "_law_right" "_law_right" (defArgs S_right) (defBody S_right) (defScope S_right) .none kV27 dc27 pm27 an27 cd27 ct27), sl27⟩)
    (c27 : PySem.W.codeIn K cd27 "_law_right" = true)
    (k27 : PySem.W.keepIn K (.ref f27) = true)
    (a28 : PySem.W.nsIn K mainGlobals "law" = some (some (.ref f28)))
    (l28 : K.lookup f28 = some ⟨oc28, od28, .func (PySem.W.fnOf "law" "law" (defArgs S_law) (defBody S_law) (defScope S_law) .none kV28 dc28 pm28 an28 cd28 ct28), sl28⟩)
    (c28 : PySem.W.codeIn K cd28 "law" = true)
    (k28 : PySem.W.keepIn K (.ref f28) = true)
    (zisinstance : PySem.W.nsIn K mainGlobals "isinstance" = some none)
    (zlist : PySem.W.nsIn K mainGlobals "list" = some none)
    (ztuple : PySem.W.nsIn K mainGlobals "tuple" = some none)
    (zlen : PySem.W.nsIn K mainGlobals "len" = some none)
    (zall : PySem.W.nsIn K mainGlobals "all" = some none)
    (zany : PySem.W.nsIn K mainGlobals "any" = some none)
    (zzip : PySem.W.nsIn K mainGlobals "zip" = some none)
    (zbool : PySem.W.nsIn K mainGlobals "bool" = some none)
    (zstr : PySem.W.nsIn K mainGlobals "str" = some none)
    (zint : PySem.W.nsIn K mainGlobals "int" = some none)
    (zabs : PySem.W.nsIn K mainGlobals "abs" = some none)
    (zmax : PySem.W.nsIn K mainGlobals "max" = some none)
    (zmin : PySem.W.nsIn K mainGlobals "min" = some none)
    (zrange : PySem.W.nsIn K mainGlobals "range" = some none)
    (zsorted : PySem.W.nsIn K mainGlobals "sorted" = some none)
    (zenumerate : PySem.W.nsIn K mainGlobals "enumerate" = some none)
    (zset : PySem.W.nsIn K mainGlobals "set" = some none)
    (zsum : PySem.W.nsIn K mainGlobals "sum" = some none)
    (zreversed : PySem.W.nsIn K mainGlobals "reversed" = some none)
    (zrepr : PySem.W.nsIn K mainGlobals "repr" = some none)
    (zdict : PySem.W.nsIn K mainGlobals "dict" = some none)
    (zValueError : PySem.W.nsIn K mainGlobals "ValueError" = some none)
    (zLookupError : PySem.W.nsIn K mainGlobals "LookupError" = some none)
    (zRuntimeError : PySem.W.nsIn K mainGlobals "RuntimeError" = some none)
    (zOverflowError : PySem.W.nsIn K mainGlobals "OverflowError" = some none)
    (zIndexError : PySem.W.nsIn K mainGlobals "IndexError" = some none)
    (zKeyError : PySem.W.nsIn K mainGlobals "KeyError" = some none)
    (zNotImplementedError : PySem.W.nsIn K mainGlobals "NotImplementedError" = some none)
    (zMOST : PySem.W.nsIn K mainGlobals "MOST" = some (some (.int 300 tMOST)))
    (zdivmod : PySem.W.nsIn K mainGlobals "divmod" = some none) :
    ∃ fd : FuncData, (∀ (s : Shared) (v : Value), BindsTo s fd ⟨[v], []⟩ [("_law_script", v)]) ∧ ∀ base : Heap, K.In base → base.Ns mainGlobals mg → FnG l.prog w K mg base 10 fa fd ["_law_script"] (spA K F_law) := by
  have e := hfa.symm.trans (PySem.W.mg_of X G a28)
  cases e
  have F0 := fun_mk (st := S_code_of) l0 c0 k0
  have m0 := PySem.W.mg_of X G a0
  have F1 := fun_mk (st := S_codes) l1 c1 k1
  have m1 := PySem.W.mg_of X G a1
  have F2 := fun_mk (st := S_row_with) l2 c2 k2
  have m2 := PySem.W.mg_of X G a2
  have F3 := fun_mk (st := S_first_intervals) l3 c3 k3
  have m3 := PySem.W.mg_of X G a3
  have F4 := fun_mk (st := S_run_size) l4 c4 k4
  have m4 := PySem.W.mg_of X G a4
  have F5 := fun_mk (st := S_run_index) l5 c5 k5
  have m5 := PySem.W.mg_of X G a5
  have F6 := fun_mk (st := S_next_intervals) l6 c6 k6
  have m6 := PySem.W.mg_of X G a6
  have F7 := fun_mk (st := S_run_lists) l7 c7 k7
  have m7 := PySem.W.mg_of X G a7
  have F8 := fun_mk (st := S_runs) l8 c8 k8
  have m8 := PySem.W.mg_of X G a8
  have F9 := fun_mk (st := S_clear_between) l9 c9 k9
  have m9 := PySem.W.mg_of X G a9
  have F10 := fun_mk (st := S_sights) l10 c10 k10
  have m10 := PySem.W.mg_of X G a10
  have F11 := fun_mk (st := S_exchanges) l11 c11 k11
  have m11 := PySem.W.mg_of X G a11
  have F12 := fun_mk (st := S_check_same_people) l12 c12 k12
  have m12 := PySem.W.mg_of X G a12
  have F13 := fun_mk (st := S_leads) l13 c13 k13
  have m13 := PySem.W.mg_of X G a13
  have F14 := fun_mk (st := S_bar) l14 c14 k14
  have m14 := PySem.W.mg_of X G a14
  have F15 := fun_mk (st := S_count_rows) l15 c15 k15
  have m15 := PySem.W.mg_of X G a15
  have F16 := fun_mk (st := S_row_at) l16 c16 k16
  have m16 := PySem.W.mg_of X G a16
  have F17 := fun_mk (st := S_all_rows) l17 c17 k17
  have m17 := PySem.W.mg_of X G a17
  have F18 := fun_mk (st := S_cell_at) l18 c18 k18
  have m18 := PySem.W.mg_of X G a18
  have F19 := fun_mk (st := S_box) l19 c19 k19
  have m19 := PySem.W.mg_of X G a19
  have F20 := fun_mk (st := S_take) l20 c20 k20
  have m20 := PySem.W.mg_of X G a20
  have F21 := fun_mk (st := S_of) l21 c21 k21
  have m21 := PySem.W.mg_of X G a21
  have F22 := fun_mk (st := S_strewn) l22 c22 k22
  have m22 := PySem.W.mg_of X G a22
  have F23 := fun_mk (st := S_souls) l23 c23 k23
  have m23 := PySem.W.mg_of X G a23
  have F24 := fun_mk (st := S_valley_right) l24 c24 k24
  have m24 := PySem.W.mg_of X G a24
  have F25 := fun_mk (st := S_hill_right) l25 c25 k25
  have m25 := PySem.W.mg_of X G a25
  have F26 := fun_mk (st := S_shared_right) l26 c26 k26
  have m26 := PySem.W.mg_of X G a26
  have F27 := fun_mk (st := S_right) l27 c27 k27
  have m27 := PySem.W.mg_of X G a27
  have F28 := fun_mk (st := S_law) l28 c28 k28
  have m28 := PySem.W.mg_of X G a28
  have B : Blt mg := ⟨PySem.W.mg_none_of X G zisinstance, PySem.W.mg_none_of X G zlist, PySem.W.mg_none_of X G ztuple, PySem.W.mg_none_of X G zlen, PySem.W.mg_none_of X G zall, PySem.W.mg_none_of X G zany, PySem.W.mg_none_of X G zzip, PySem.W.mg_none_of X G zbool, PySem.W.mg_none_of X G zstr, PySem.W.mg_none_of X G zint, PySem.W.mg_none_of X G zabs, PySem.W.mg_none_of X G zmax, PySem.W.mg_none_of X G zmin, PySem.W.mg_none_of X G zrange, PySem.W.mg_none_of X G zsorted, PySem.W.mg_none_of X G zenumerate, PySem.W.mg_none_of X G zset, PySem.W.mg_none_of X G zsum, PySem.W.mg_none_of X G zreversed, PySem.W.mg_none_of X G zrepr, PySem.W.mg_none_of X G zdict, PySem.W.mg_none_of X G zValueError, PySem.W.mg_none_of X G zLookupError, PySem.W.mg_none_of X G zRuntimeError, PySem.W.mg_none_of X G zOverflowError, PySem.W.mg_none_of X G zIndexError, PySem.W.mg_none_of X G zKeyError, PySem.W.mg_none_of X G zNotImplementedError⟩
  have b0 := F0.binds (ps := ["row", "height"]) fun _ _ _ _ _ _ us hl => match us, hl with | [_, _], _ => rfl
  have b1 := F1.binds (ps := ["row"]) fun _ _ _ _ _ _ us hl => match us, hl with | [_], _ => rfl
  have b2 := F2.binds (ps := ["row", "codes"]) fun _ _ _ _ _ _ us hl => match us, hl with | [_, _], _ => rfl
  have b3 := F3.binds (ps := ["many"]) fun _ _ _ _ _ _ us hl => match us, hl with | [_], _ => rfl
  have b4 := F4.binds (ps := ["interval"]) fun _ _ _ _ _ _ us hl => match us, hl with | [_], _ => rfl
  have b5 := F5.binds (ps := ["intervals", "code"]) fun _ _ _ _ _ _ us hl => match us, hl with | [_, _], _ => rfl
  have b6 := F6.binds (ps := ["intervals", "code"]) fun _ _ _ _ _ _ us hl => match us, hl with | [_, _], _ => rfl
  have b7 := F7.binds (ps := ["row"]) fun _ _ _ _ _ _ us hl => match us, hl with | [_], _ => rfl
  have b8 := F8.binds (ps := ["row"]) fun _ _ _ _ _ _ us hl => match us, hl with | [_], _ => rfl
  have b9 := F9.binds (ps := ["row", "left", "right"]) fun _ _ _ _ _ _ us hl => match us, hl with | [_, _, _], _ => rfl
  have b10 := F10.binds (ps := ["row"]) fun _ _ _ _ _ _ us hl => match us, hl with | [_], _ => rfl
  have b11 := F11.binds (ps := ["row"]) fun _ _ _ _ _ _ us hl => match us, hl with | [_], _ => rfl
  have b12 := F12.binds (ps := ["one", "other"]) fun _ _ _ _ _ _ us hl => match us, hl with | [_, _], _ => rfl
  have b13 := F13.binds (ps := ["one", "other"]) fun _ _ _ _ _ _ us hl => match us, hl with | [_, _], _ => rfl
  have b14 := F14.binds (ps := ["one", "other"]) fun _ _ _ _ _ _ us hl => match us, hl with | [_, _], _ => rfl
  have b15 := F15.binds (ps := ["row"]) fun _ _ _ _ _ _ us hl => match us, hl with | [_], _ => rfl
  have b16 := F16.binds (ps := ["row", "number"]) fun _ _ _ _ _ _ us hl => match us, hl with | [_, _], _ => rfl
  have b17 := F17.binds (ps := ["row"]) fun _ _ _ _ _ _ us hl => match us, hl with | [_], _ => rfl
  have b18 := F18.binds (ps := ["_law_script", "_law_k"]) fun _ _ _ _ _ _ us hl => match us, hl with | [_, _], _ => rfl
  have b19 := F19.binds (ps := ["_law_script", "_law_k"]) fun _ _ _ _ _ _ us hl => match us, hl with | [_, _], _ => rfl
  have b20 := F20.binds (ps := ["_law_box_here", "_law_below"]) fun _ _ _ _ _ _ us hl => match us, hl with | [_, _], _ => rfl
  have b21 := F21.binds (ps := ["_law_box_here", "_law_some"]) fun _ _ _ _ _ _ us hl => match us, hl with | [_, _], _ => rfl
  have b22 := F22.binds (ps := ["_law_box_here", "_law_some"]) fun _ _ _ _ _ _ us hl => match us, hl with | [_, _], _ => rfl
  have b23 := F23.binds (ps := ["_law_box_here", "_law_count"]) fun _ _ _ _ _ _ us hl => match us, hl with | [_, _], _ => rfl
  have b24 := F24.binds (ps := ["_law_box_here"]) fun _ _ _ _ _ _ us hl => match us, hl with | [_], _ => rfl
  have b25 := F25.binds (ps := ["_law_box_here"]) fun _ _ _ _ _ _ us hl => match us, hl with | [_], _ => rfl
  have b26 := F26.binds (ps := ["_law_box_here"]) fun _ _ _ _ _ _ us hl => match us, hl with | [_], _ => rfl
  have b27 := F27.binds (ps := ["_law_box_here"]) fun _ _ _ _ _ _ us hl => match us, hl with | [_], _ => rfl
  refine ⟨PySem.W.fnOf "law" "law" (defArgs S_law) (defBody S_law) (defScope S_law) .none kV28 dc28 pm28 an28 cd28 ct28, fun s v => .of_eq rfl, fun base _ _ => ?_⟩
  have G18 := dk_cell_at (P := l.prog) (w := w) (mg := mg) (base := base) F18  B
  have G19 := dk_box (P := l.prog) (w := w) (mg := mg) (base := base) F19 G18 b18 F18.kp m18 B
  have G20 := dk_take (P := l.prog) (w := w) (mg := mg) (base := base) F20  b20 m20 B 2
  have G21 := dk_of (P := l.prog) (w := w) (mg := mg) (base := base) F21 G20 b20 F20.kp m20 B
  have G22 := dk_strewn (P := l.prog) (w := w) (mg := mg) (base := base) F22 G20 b20 F20.kp m20 B
  have G23 := dk_souls (P := l.prog) (w := w) (mg := mg) (base := base) F23 G20 b20 F20.kp m20 G21 b21 F21.kp m21 B
  have G0 := dk_code_of (P := l.prog) (w := w) (mg := mg) (base := base) F0  B
  have G1 := dk_codes (P := l.prog) (w := w) (mg := mg) (base := base) F1 G0 b0 F0.kp m0 B
  have G2 := dk_row_with (P := l.prog) (w := w) (mg := mg) (base := base) F2  B
  have G3 := dk_first_intervals (P := l.prog) (w := w) (mg := mg) (base := base) F3  B
  have G4 := dk_run_size (P := l.prog) (w := w) (mg := mg) (base := base) F4  B
  have G5 := dk_run_index (P := l.prog) (w := w) (mg := mg) (base := base) F5  B
  have G6 := dk_next_intervals (P := l.prog) (w := w) (mg := mg) (base := base) F6 G5 b5 F5.kp m5 B
  have G7 := dk_run_lists (P := l.prog) (w := w) (mg := mg) (base := base) F7 G1 b1 F1.kp m1 G3 b3 F3.kp m3 G6 b6 F6.kp m6 B
  have G8 := dk_runs (P := l.prog) (w := w) (mg := mg) (base := base) F8 G1 b1 F1.kp m1 G7 b7 F7.kp m7 G5 b5 F5.kp m5 B
  have G9 := dk_clear_between (P := l.prog) (w := w) (mg := mg) (base := base) F9  B
  have G10 := dk_sights (P := l.prog) (w := w) (mg := mg) (base := base) F10 G9 b9 F9.kp m9 B
  have G11 := dk_exchanges (P := l.prog) (w := w) (mg := mg) (base := base) F11 G10 b10 F10.kp m10 B
  have G12 := dk_check_same_people (P := l.prog) (w := w) (mg := mg) (base := base) F12  B
  have G14 := dk_bar (P := l.prog) (w := w) (mg := mg) (base := base) F14 G12 b12 F12.kp m12 G8 b8 F8.kp m8 B
  have G13 := dk_leads (P := l.prog) (w := w) (mg := mg) (base := base) F13 G14 b14 F14.kp m14 B
  have G15 := dk_count_rows (P := l.prog) (w := w) (mg := mg) (base := base) F15 G4 b4 F4.kp m4 G8 b8 F8.kp m8 B
  have G16 := dk_row_at (P := l.prog) (w := w) (mg := mg) (base := base) F16 G15 b15 F15.kp m15 G8 b8 F8.kp m8 G4 b4 F4.kp m4 G2 b2 F2.kp m2 B (PySem.W.mg_none_of X G zdivmod)
  have G17 := dk_all_rows (P := l.prog) (w := w) (mg := mg) (base := base) F17 G15 b15 F15.kp m15 G16 b16 F16.kp m16 B (PySem.W.mg_of X G zMOST)
  have G24 := dk_valley_right (P := l.prog) (w := w) (mg := mg) (base := base) F24 G20 b20 F20.kp m20 G23 b23 F23.kp m23 G8 b8 F8.kp m8 G15 b15 F15.kp m15 B
  have G25 := dk_hill_right (P := l.prog) (w := w) (mg := mg) (base := base) F25 G20 b20 F20.kp m20 G23 b23 F23.kp m23 G22 b22 F22.kp m22 G11 b11 F11.kp m11 G15 b15 F15.kp m15 G17 b17 F17.kp m17 G13 b13 F13.kp m13 B
  have G26 := dk_shared_right (P := l.prog) (w := w) (mg := mg) (base := base) F26 G20 b20 F20.kp m20 G23 b23 F23.kp m23 G22 b22 F22.kp m22 G8 b8 F8.kp m8 G15 b15 F15.kp m15 B
  have G27 := dk_right (P := l.prog) (w := w) (mg := mg) (base := base) F27 G24 b24 F24.kp m24 G25 b25 F25.kp m25 G26 b26 F26.kp m26 B
  exact dk_law F28 G19 b19 F19.kp m19 G27 b27 F27.kp m27 B
theorem walk {l : PySem.W.OpenLaw} {q : Program} {loose : List Str} {XP : (Str → Option Value) → Heap → Prop} {YP : World → Heap → Prop} {d : DefRec} {K : Params → PySem.W.Frag} (hn : l.most = some 63) (hdf : d.params.defaults = [])
    (hY : ∀ (w : World) (h : Heap), YP w h → (K w.params).In h)
    (F : ∀ (w : World) (mg : Str → Option Value) (fa : Addr) (h : Heap), (K w.params).In h → h.Ns mainGlobals mg → mg d.name = some (.ref fa) →
      ∃ fd : FuncData, (∀ (s : Shared) (u : Value), BindsTo s fd ⟨[u], []⟩ [("_law_script", u)]) ∧ ∀ base : Heap, (K w.params).In base → base.Ns mainGlobals mg → FnG l.prog w (K w.params) mg base 10 fa fd ["_law_script"] (spA (K w.params) F_law)) :
    PySem.W.WalkO q loose XP YP l.row.toRowW d [] (fun f vs => PySem.call f vs) :=
  walkG (n := 63) (k := 10) (x := "_law_script") (sp := fun w => spA (K w.params) F_law) hn (by decide) hdf ⟨rfl, by decide, by decide⟩ hY F fun _ _ _ ns hl hS => law_sp F_law (law_ok ns) hS
end Ov
open PySem PySem.W PyProof.Rows
set_option maxRecDepth 100000 in
set_option maxHeartbeats 0 in
theorem PySem.Challenge.cw_overlooks_k66_whole_valleys_by_hand_holds : PySem.Challenge.rw_overlooks_k66_whole_valleys_by_hand.Holds := by
  w_on; o_law; k_head; (case hw => w_witness2)
  k_fill
  refine Ov.walk (l := PySem.Challenge.rw_overlooks_k66_whole_valleys_by_hand) rfl rfl (fun w h Y => PySem.W.kIn_of Y) ?F
  case F =>
    intro w mg fa h KX G hmg
    refine' Ov.all_mk KX G hmg ?a0 ?l0 ?c0 ?k0 ?a1 ?l1 ?c1 ?k1 ?a2 ?l2 ?c2 ?k2 ?a3 ?l3 ?c3 ?k3 ?a4 ?l4 ?c4 ?k4 ?a5 ?l5 ?c5 ?k5 ?a6 ?l6 ?c6 ?k6 ?a7 ?l7 ?c7 ?k7 ?a8 ?l8 ?c8 ?k8 ?a9 ?l9 ?c9 ?k9 ?a10 ?l10 ?c10 ?k10 ?a11 ?l11 ?c11 ?k11 ?a12 ?l12 ?c12 ?k12 ?a13 ?l13 ?c13 ?k13 ?a14 ?l14 ?c14 ?k14 ?a15 ?l15 ?c15 ?k15 ?a16 ?l16 ?c16 ?k16 ?a17 ?l17 ?c17 ?k17 ?a18 ?l18 ?c18 ?k18 ?a19 ?l19 ?c19 ?k19 ?a20 ?l20 ?c20 ?k20 ?a21 ?l21 ?c21 ?k21 ?a22 ?l22 ?c22 ?k22 ?a23 ?l23 ?c23 ?k23 ?a24 ?l24 ?c24 ?k24 ?a25 ?l25 ?c25 ?k25 ?a26 ?l26 ?c26 ?k26 ?a27 ?l27 ?c27 ?k27 ?a28 ?l28 ?c28 ?k28 ?zisinstance ?zlist ?ztuple ?zlen ?zall ?zany ?zzip ?zbool ?zstr ?zint ?zabs ?zmax ?zmin ?zrange ?zsorted ?zenumerate ?zset ?zsum ?zreversed ?zrepr ?zdict ?zValueError ?zLookupError ?zRuntimeError ?zOverflowError ?zIndexError ?zKeyError ?zNotImplementedError ?zMOST ?zdivmod
    (case a0 => k_is)
    (case l0 => k_is)
    (case c0 => k_is)
    (case k0 => k_is)
    (case a1 => k_is)
    (case l1 => k_is)
    (case c1 => k_is)
    (case k1 => k_is)
    (case a2 => k_is)
    (case l2 => k_is)
    (case c2 => k_is)
    (case k2 => k_is)
    (case a3 => k_is)
    (case l3 => k_is)
    (case c3 => k_is)
    (case k3 => k_is)
    (case a4 => k_is)
    (case l4 => k_is)
    (case c4 => k_is)
    (case k4 => k_is)
    (case a5 => k_is)
    (case l5 => k_is)
    (case c5 => k_is)
    (case k5 => k_is)
    (case a6 => k_is)
    (case l6 => k_is)
    (case c6 => k_is)
    (case k6 => k_is)
    (case a7 => k_is)
    (case l7 => k_is)
    (case c7 => k_is)
    (case k7 => k_is)
    (case a8 => k_is)
    (case l8 => k_is)
    (case c8 => k_is)
    (case k8 => k_is)
    (case a9 => k_is)
    (case l9 => k_is)
    (case c9 => k_is)
    (case k9 => k_is)
    (case a10 => k_is)
    (case l10 => k_is)
    (case c10 => k_is)
    (case k10 => k_is)
    (case a11 => k_is)
    (case l11 => k_is)
    (case c11 => k_is)
    (case k11 => k_is)
    (case a12 => k_is)
    (case l12 => k_is)
    (case c12 => k_is)
    (case k12 => k_is)
    (case a13 => k_is)
    (case l13 => k_is)
    (case c13 => k_is)
    (case k13 => k_is)
    (case a14 => k_is)
    (case l14 => k_is)
    (case c14 => k_is)
    (case k14 => k_is)
    (case a15 => k_is)
    (case l15 => k_is)
    (case c15 => k_is)
    (case k15 => k_is)
    (case a16 => k_is)
    (case l16 => k_is)
    (case c16 => k_is)
    (case k16 => k_is)
    (case a17 => k_is)
    (case l17 => k_is)
    (case c17 => k_is)
    (case k17 => k_is)
    (case a18 => k_is)
    (case l18 => k_is)
    (case c18 => k_is)
    (case k18 => k_is)
    (case a19 => k_is)
    (case l19 => k_is)
    (case c19 => k_is)
    (case k19 => k_is)
    (case a20 => k_is)
    (case l20 => k_is)
    (case c20 => k_is)
    (case k20 => k_is)
    (case a21 => k_is)
    (case l21 => k_is)
    (case c21 => k_is)
    (case k21 => k_is)
    (case a22 => k_is)
    (case l22 => k_is)
    (case c22 => k_is)
    (case k22 => k_is)
    (case a23 => k_is)
    (case l23 => k_is)
    (case c23 => k_is)
    (case k23 => k_is)
    (case a24 => k_is)
    (case l24 => k_is)
    (case c24 => k_is)
    (case k24 => k_is)
    (case a25 => k_is)
    (case l25 => k_is)
    (case c25 => k_is)
    (case k25 => k_is)
    (case a26 => k_is)
    (case l26 => k_is)
    (case c26 => k_is)
    (case k26 => k_is)
    (case a27 => k_is)
    (case l27 => k_is)
    (case c27 => k_is)
    (case k27 => k_is)
    (case a28 => k_is)
    (case l28 => k_is)
    (case c28 => k_is)
    (case k28 => k_is)
    (case zisinstance => k_is)
    (case zlist => k_is)
    (case ztuple => k_is)
    (case zlen => k_is)
    (case zall => k_is)
    (case zany => k_is)
    (case zzip => k_is)
    (case zbool => k_is)
    (case zstr => k_is)
    (case zint => k_is)
    (case zabs => k_is)
    (case zmax => k_is)
    (case zmin => k_is)
    (case zrange => k_is)
    (case zsorted => k_is)
    (case zenumerate => k_is)
    (case zset => k_is)
    (case zsum => k_is)
    (case zreversed => k_is)
    (case zrepr => k_is)
    (case zdict => k_is)
    (case zValueError => k_is)
    (case zLookupError => k_is)
    (case zRuntimeError => k_is)
    (case zOverflowError => k_is)
    (case zIndexError => k_is)
    (case zKeyError => k_is)
    (case zNotImplementedError => k_is)
    (case zMOST => k_is)
    (case zdivmod => k_is)
