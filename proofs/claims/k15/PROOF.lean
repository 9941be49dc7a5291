import PyProof.Rows.All
import Wide.All
import OpenK.AllK
import Wide.FinOn
import HandS.ForMost
import HandS.More
import HandS.IsInst
import HandS.Walk
import HandS.Zip
import HandS.Defaults
import HandS.MakeKwOnly
import HandS.ExcInit
import KE.KExcInit
import KE.KExcIs
import HandS.Evl
import PySem.Challenge.RW_overlooks_k15_errors_by_hand
set_option Elab.async false
set_option linter.all false
set_option maxRecDepth 100000
set_option maxHeartbeats 4000000
/-! exceptions of the program's own classes as values -/
namespace OvX
open PySem PySem.W PySem.Calls PyProof.Rows PySem.HandSPX PySem.Builtin PySem.Builtin.ObjectAttr
section
variable {M : Model} {prog : Program} {w : World} {A : Around} {E : Value → Shared → Prop} {R : Result → Shared → Prop} {h : Heap} {g : Array GenState} {d : Drawn} {t : Nat} {os : OsState}
variable {nm q : Str} {C N : Addr} {bs bm bmB : List Value} {hdct : Bool} {sn : List Str} {sub : List Value} {ab : Bool} {col : Option Bool} {dd : Option Addr} {k0 k1 k2 k3 k5 : Option Value} {B newId initId : String}
theorem newCheck (F : ExcBaseFacts B newId initId bmB) (hT : ∀ X : String, bm.contains (.type X) = bmB.contains (.type X)) {rest : List Value} {kw : List (Str × Value)} {Q : Unit → Shared → Prop}
    (hC : h.get? C = some (excClassObj nm q C N bs bm hdct sn sub ab col dd k0 k1 k2 k3 k5 newId)) (hq : Q () ⟨h, g, d, t, os⟩) : wpAny M A (checkBuiltinCall newId ⟨.ref C :: rest, kw⟩) Q E ⟨h, g, d, t, os⟩ := by
  have hB : (Value.ref C :: bm).contains (.type B) = true := by rw [List.contains_cons, hT, F.hasB, Bool.or_true]
  have hstar := F.noStar
  simp only [checkBuiltinCall, F.newKind, F.newSplit, F.newRow]
  repeat (first
    | refine wpAny_loadPart_at hC ?_
    | (refine wpAny_isSubtype_exc hC ?_; rw [hB])
    | refine wpAny_staticBase_exc hC ?_
    | refine wpAny_madeBy_exc hC ?_
    | simp only [bne_self_eq_false, Bool.false_eq_true, if_false]
    | wp_step)
  all_goals exact hq
theorem newMade (F : ExcBaseFacts B newId initId bmB) (hT : ∀ X : String, bm.contains (.type X) = bmB.contains (.type X)) {rest : List Value} {kw : List (Str × Value)}
    (hC : h.get? C = some (excClassObj nm q C N bs bm hdct sn sub ab col dd k0 k1 k2 k3 k5 newId)) (hz : rest.length ≤ sizeLine)
    (hq : R (.ok (.ret (.ref (h.objs.size + 1)))) ⟨(h.push (kdv_tup rest)).push (excO C h.objs.size), g, d, t, os⟩) :
    codeAny (model prog w) A (.builtin newId ⟨.ref C :: rest, kw⟩) R ⟨h, g, d, t, os⟩ := by
  have hE := F.ends
  have hB : (Value.ref C :: bm).contains (.type B) = true := by rw [List.contains_cons, hT, F.hasB, Bool.or_true]
  have hA : (Value.ref C :: bm).contains (.type "AttributeError") = false := by rw [List.contains_cons, hT, F.noAttr]; rfl
  have hN : (Value.ref C :: bm).contains (.type "NameError") = false := by rw [List.contains_cons, hT, F.noName]; rfl
  refine codeAny_builtinAt F.entry ?_
  unfold Builtin.«BaseException.__new__»
  refine PySem.wpAt_bind ?_
  show PySem.wpAt _ _ _ (stack >>= _) _ _ _
  refine PySem.wpAt_bind (PySem.wpAt_stack fun p below => PySem.wpAt_of_wpAny ?_)
  wp_walk
  refine PySem.wpAt_of_wpAny ?_
  rw [F.owner]
  repeat (first
    | with_reducible refine wpAny_madeHere_exc F.canon hC ?_
    | with_reducible refine wpAny_loadPart_at hC ?_
    | (with_reducible refine wpAny_isSubtype_exc hC ?_; first | rw [hB] | rw [hA] | rw [hN])
    | wp_step)
  show R _ _
  rw [Heap.size_push]
  exact hq
theorem typeCall (F : ExcBaseFacts B newId initId bmB) (hT : ∀ X : String, bm.contains (.type X) = bmB.contains (.type X)) {rest : List Value} {kw : List (Str × Value)} {fI : Addr} {Q : Fin → Shared → Prop}
    (hC : h.get? C = some (excClassObj nm q C N bs bm hdct sn sub ab col dd k0 k1 k2 k3 k5 newId))
    (hi : Looks (model prog w) h (typeLookup (.ref C) "__init__") (some (.ref fI))) (hb : ∀ self, Looks (model prog w) h (bindSpecial (.ref fI) self) (.ref fI, [self])) (hz : rest.length ≤ sizeLine)
    (hq : codeAny (model prog w) A (.call (.ref fI) ⟨.ref (h.objs.size + 1) :: rest, kw⟩)
      (fun r s' => match r with | .ok (.ret v) => v = .none ∧ Q (.done (.ret (.ref (h.objs.size + 1)))) s' | .ok _ => False | .error e => E e s')
      ⟨(h.push (kdv_tup rest)).push (excO C h.objs.size), g, d, t, os⟩) :
    wpAny (model prog w) A (Builtin.«type.__call__» ⟨.ref C :: rest, kw⟩) Q E ⟨h, g, d, t, os⟩ := by
  repeat (first
    | with_reducible refine wpAny_loadPart_at hC ?_
    | with_reducible refine wpAny_madeBy_exc hC ?_
    | wp_step)
  refine codeAny_call_builtin_code (Code.quiet_builtin _ F.quiet) (newCheck F hT hC ?_)
  refine newMade F hT hC hz ?_
  show wpAny _ _ _ _ _ _
  have k : ∀ b o, h.get? b = some o → ((h.push (kdv_tup rest)).push (excO C h.objs.size)).get? b = some o := fun b o e => Heap.get?_push_of_some _ (Heap.get?_push_of_some _ e)
  have hC1 := k _ _ hC
  have hg : ((h.push (kdv_tup rest)).push (excO C h.objs.size)).get? (h.objs.size + 1) = some (excO C h.objs.size) := by heap_get
  have hcC : (Value.ref C :: bm).contains (.ref C) = true := by simp
  have i1 := hi.keeps k
  have b1 := (hb (.ref (h.objs.size + 1))).keeps k
  unfold isInstance
  repeat (first
    | with_reducible refine wpAny_loadPart_at hg ?_
    | (with_reducible refine wpAny_isSubtype_exc hC1 ?_; rw [hcC])
    | wp_step)
  show wpAny _ _ (typeLookup (.ref C) _) _ _ _
  refine i1.at ?_
  refine wpAny_holding (wpAny_bind (b1.at ?_))
  refine wpAny_bind (wpAny_call (codeAny_mono hq fun r s' z => ?_))
  rcases r with e | (v | _ | _ | _) <;> first | exact z | exact z.elim | skip
  obtain ⟨rfl, z⟩ := z
  first
    | exact wpAny_pure (wpAny_pure z)
    | (wp_walk; exact z)
theorem typeCheck {rest : List Value} {kw : List (Str × Value)} {Q : Unit → Shared → Prop} (hC : h.get? C = some (excClassObj nm q C N bs bm hdct sn sub ab col dd k0 k1 k2 k3 k5 newId))
    (hq : Q () ⟨h, g, d, t, os⟩) : wpAny M A (checkBuiltinCall "type.__call__" ⟨.ref C :: rest, kw⟩) Q E ⟨h, g, d, t, os⟩ := by
  have f3 := tc_sub
  have hT : (⟨h, g, d, t, os⟩ : Shared).TypeIs (.ref C) "type" := ⟨_, hC, rfl⟩
  simp only [checkBuiltinCall, tc_kind, tc_split]
  repeat (any_goals (first
    | assumption
    | with_reducible refine wpAny_loadPart_at hC ?_
    | with_reducible refine wpAny_onRaise ?_
    | with_reducible refine wpAny_map ?_
    | wp_step))
  all_goals trace_state
theorem callOwn (F : ExcBaseFacts B newId initId bmB) (hT : ∀ X : String, bm.contains (.type X) = bmB.contains (.type X)) {rest : List Value} {kw : List (Str × Value)} {fI : Addr}
    (hC : h.get? C = some (excClassObj nm q C N bs bm hdct sn sub ab col dd k0 k1 k2 k3 k5 newId))
    (hi : Looks (model prog w) h (typeLookup (.ref C) "__init__") (some (.ref fI))) (hb : ∀ self, Looks (model prog w) h (bindSpecial (.ref fI) self) (.ref fI, [self])) (hz : rest.length ≤ sizeLine)
    (hq : codeAny (model prog w) (A.under (.builtin "type.__call__" ⟨.ref C :: rest, kw⟩)) (.call (.ref fI) ⟨.ref (h.objs.size + 1) :: rest, kw⟩) (InitBack (h.objs.size + 1) R)
      ⟨(h.push (kdv_tup rest)).push (excO C h.objs.size), g, d, t, os⟩) :
    codeAny (model prog w) A (.call (.ref C) ⟨rest, kw⟩) R ⟨h, g, d, t, os⟩ := by
  have f1 := tc_lookup
  have f2 := tc_bind (.ref C)
  have hTy : (⟨h, g, d, t, os⟩ : Shared).TypeIs (.ref C) "type" := ⟨_, hC, rfl⟩
  refine codeAny_of_tree ?_
  show wpAny _ _ (callAny (.ref C) _) _ _ _
  repeat (any_goals (first
    | assumption
    | with_reducible refine wpAny_loadPart_at hC ?_
    | wp_step))
  refine ⟨rfl, ?_⟩
  refine codeAny_call_builtin_at (Code.quiet_builtin _ (by decide +kernel)) entry_typeCall (typeCheck hC (typeCall F hT hC hi hb hz ?_))
  refine codeAny_mono hq fun r s' z => ?_
  rcases r with e | (v | _ | _ | _) <;> exact z
end
/-- what the written part says of an own class of exceptions -/
structure ExK (K : Frag) (C : Addr) (bmB : List Value) (newId : String) : Prop where
  over : excOver K C bmB = true
  ini : excInitIn K C bmB newId = true
  sa : findIn K (.ref C) "__setattr__" = some (some (.builtin "object.__setattr__"))
  ga : findIn K (.ref C) "__getattribute__" = some (some (.builtin "BaseException.__getattribute__"))
  gg : findIn K (.ref C) "__getattr__" = some none
  exC : subIn K (.ref C) (.type "BaseException") = some true
  hd : hasDictIn K C = true
  kC : keepIn K (.ref C) = true
  ca : findIn K (.ref C) "__class__" = some (some (.builtin "object.__class__"))
  sp : specialIn K (.builtin "object.__class__") "__get__" = some (some (.builtin "getset_descriptor.__get__"))
  tk : takesIn K (.builtin "object.__class__") = some true
  mr : mroIn K C (.type "object") = some true
section
variable {prog : Program} {w : World} {A : Around} {E : Value → Shared → Prop} {R : Result → Shared → Prop} {hp : Heap} {g : Array GenState} {d : Drawn} {t : Nat} {os : OsState} {B newId : String} {bmB : List Value} {K : Frag}
theorem firstStore (SF : StoreFacts B bmB "object.__setattr__" "object") {C x : Addr} (T : ExK K C bmB newId) {name : Str} {tk : Tok} {v : Value} {fv : Array Value} (X : K.In hp) (hx : hp.get? x = some { cls := .ref C, data := .fields fv }) (ha : findIn K (.ref C) name = some none)
    (hq : ∀ h' tk' dx, (∀ b o, b ≠ x → hp.get? b = some o → h'.get? b = some o) → hp.objs.size ≤ dx → dx ≠ x → h'.get? x = some { cls := .ref C, dict := some dx, data := .fields fv } →
      h'.Ns1 dx (fun y => if y = name then some v else none) → R (.ok (.ret .none)) ⟨h', g, d, tk', os⟩) :
    codeAny (model prog w) A (.call (.builtin "object.__setattr__") ⟨[.ref x, .str name tk, v], []⟩) R ⟨hp, g, d, t, os⟩ := by
  refine osa_openX (r := none) (s := ⟨hp, g, d, t, os⟩) SF X (ox := { cls := .ref C, data := .fields fv }) (od := none) ⟨hx, rfl, rfl, trivial⟩ T.over (by unfold takerIn; rw [ha]; rfl) (fun b => ?_)
  show wpAny _ _ (storeInOwnDict (.ref x) (.ref C) (.str name tk) name v b) _ _ _
  obtain ⟨cd, hcd, hh⟩ := any_some T.hd
  have hcls : Looks (model prog w) hp (classData C) cd := looks_clsIn X hcd
  have hxs : x ≠ hp.objs.size := Nat.ne_of_lt (Heap.lt_size hx)
  obtain ⟨nm, bs, mro, ns, qn, hdd, sn, sb, ab, col, del⟩ := cd
  dsimp only at hh
  subst hh
  unfold storeInOwnDict ownDictForStores
  repeat (first
    | with_reducible refine store_in_new ?_ ?_
    | with_reducible refine wpAny_loadPart_at hx ?_
    | with_reducible refine hcls.at ?_
    | wp_step)
  · exact ⟨_, #[], _, (Heap.get?_update_ne _ _ _ _ hxs.symm).trans (Heap.get?_push_at rfl rfl), rfl, fun e he => absurd he (by simp), fun _ => rfl⟩
  · intro h' tk' hn' hs
    have h1 : (hp.push { cls := .type "dict", data := .dict #[] }).get? x = some { cls := .ref C, data := .fields fv } := Heap.get?_push_of_some _ hx
    exact hq h' tk' hp.objs.size (fun b o hb ho => (hs.2 b (Nat.ne_of_lt (Heap.lt_size ho))).trans ((Heap.get?_update_ne _ _ _ _ hb).trans (Heap.get?_push_of_some _ ho))) (Nat.le_refl _) hxs.symm
      ((hs.2 x hxs).trans (Heap.get?_update_self _ h1 rfl)) hn'
end
end OvX
namespace Ov
open PySem L2
section
variable {X : Cx} {pins : List (Addr × Obj)} {σ : L2.St} {H : Hp} {s : Shared} {a C dx : Addr} {f : Str} {y : V} {u : Value} {fs : List (Str × V)} {B newId initId : String} {bmB : List Value}
/-- the first attribute of a new exception -/
theorem set_first {Q : Unit → Shared → Prop} {E : Value → Shared → Prop} {A : Around} (SF : PySem.StoreFacts B bmB "object.__setattr__" "object") (T : OvX.ExK X.K C bmB newId) (I : Inv X pins σ H s) (e : H a = some (exo a C none)) (hno : PySem.W.findIn X.K (.ref C) f = some none) (ry : RelV y u)
    (h : ∀ dx s', H dx = none → dx ≠ a → Inv X pins σ (upd (upd H dx (exd dx [(f, y)])) a (exo a C (some dx))) s' → Q () s') : wpAny (model X.prog X.w) A (setAttr (.ref a) f u) Q E s := by
  obtain ⟨t1, ho⟩ := exo_at I.hok e
  obtain ⟨hp, g, d, t, os⟩ := s
  refine PySem.W.set_plain I.kIn (ox := { cls := .ref C, dict := none, data := .fields #[.ref t1, .none, .none, .none, .bool false, .none] }) (od := none) ⟨ho, rfl, rfl, trivial⟩ T.sa ?_
  refine OvX.firstStore SF T I.kIn ho hno (fun h' tk' dx k dn dne hx hn => ?_)
  have hnd : H dx = none := I.hok.fresh dn
  have nd : ∀ {b : Addr} {o : Obj}, hp.get? b = some o → b ≠ dx := fun {b o} q => Nat.ne_of_lt (Nat.lt_of_lt_of_le (Heap.lt_size q) dn)
  have na : ∀ {b : Addr}, H b = none → b ≠ a := fun {b} n z => by
    rw [z, e] at n
    cases n
  have un : Un X.fs [] H (upd (upd H dx (exd dx [(f, y)])) a (exo a C (some dx))) hp h' := by
    refine ⟨fun b o q n _ _ => k b o (na n) q, fun b o q n _ _ => ⟨o.slots, k b o (na n) q⟩, fun b o q n _ => ?_, fun b o q _ => ?_, fun b xs q => ?_, fun b o v q => ?_, fun b ps q => ⟨#[], ?_⟩⟩
    · rw [upd_ne (na n), upd_ne (nd q)]
      exact n
    · by_cases hb : b = a
      · subst hb
        exact ⟨_, hx⟩
      · exact ⟨o, k b o hb q⟩
    · rw [upd_ne (at_ne e q exo_tup), upd_ne (ne_of_none q hnd)]
      exact q
    · rw [upd_ne (at_ne e q exo_frz), upd_ne (ne_of_none q hnd)]
      exact q
    · rw [upd_ne (at_ne e q exo_tbl), upd_ne (ne_of_none q hnd), q]
      simp
  refine h dx _ hnd dne (I.un (t' := tk') un fun b o q => ?_)
  by_cases hb : b = a
  · subst hb
    rw [upd_same] at q
    cases q
    exact exo_ok hx
  rw [upd_ne hb] at q
  by_cases hd : b = dx
  · subst hd
    rw [upd_same] at q
    cases q
    exact exd_ok hn (relO_put (fs := []) ry fun g => True.intro)
  rw [upd_ne hd] at q
  refine (I.hok b o q).stay (fun c v hc z => k c v ?_ z) (fun c hc => ?_) (fun c xs hc => ?_)
  · rcases hc with hc | hc
    · rw [hc]
      exact hb
    · exact at_ne e hc exo_own
  · rw [upd_ne (at_ne e hc exo_own), upd_ne (ne_of_none hc hnd)]
    exact hc
  · rw [upd_ne (at_ne e hc exo_tup), upd_ne (ne_of_none hc hnd)]
    exact hc
/-- self.f = e in an __init__ -/
def tSt1 (K : PySem.W.Frag) (bmB : List Value) (newId : String) (f : Str) (to te : TE) : TS := fun D σ H => te σ H fun y H1 => to σ H1 fun x H2 => ∃ a C : Addr, x = .ref a ∧ OvX.ExK K C bmB newId ∧ PySem.W.findIn K (.ref C) f = some none ∧
  H2 a = some (exo a C none) ∧ ∀ dx, H2 dx = none → dx ≠ a → D.nx σ (upd (upd H2 dx (exd dx [(f, y)])) a (exo a C (some dx)))
theorem ps_st1 {o e : Expr} {to te : TE} {p' pos : Pos} (SF : PySem.StoreFacts B bmB "object.__setattr__" "object") (ho : PE X o to) (he : PE X e te) (hs : swapsWith e (some (.Attribute o f p')) pos.line X.env = pure false := by rfl) :
    PS X (.Assign [.Attribute o f p'] e pos) (tSt1 X.K bmB newId f to te) := by
  refine ⟨fun pins s σ H D I h => ?_⟩
  refine plainObj_wpAny_Assign_Attribute (thn (he.run pins s σ H _ I h) fun v s1 ⟨y, H1, I1, r1, q1⟩ => thn (ho.run pins s1 σ H1 _ I1 q1) fun u s2 ⟨x, H2, I2, r2, a, C, ex, T, hno, ea, q⟩ => ?_) hs
  subst ex
  obtain rfl : u = Value.ref a := r2
  exact set_first SF T I2 ea hno r1 fun dx s' n ne J => ⟨σ, _, J, q dx n ne⟩
end
end Ov

set_option Elab.async false
set_option linter.all false
set_option maxRecDepth 100000
set_option maxHeartbeats 4000000
namespace Ov
open PySem L2
section
variable {X : Cx} {CX : CXT} {k n : Nat} {fI C : Addr} {fd : FuncData} {ps ks : List Str} {sp : Sp} {E : XK} {x : Str} {p pos : Pos} {e o : Expr} {es : List Expr} {kws : List Keyword} {t tk : TA} {te : TE} {g : List Value → List Value → List Value} {gV : List V → List V → List V} {B newId initId : String} {bmB : List Value}
theorem run_ex {pins : List (Addr × Obj)} {σ : L2.St} {H : Hp} {s : Shared} {Q : VK} {us ws : List Value} {vs zs : List V} (T : OvX.ExK X.K C bmB newId) (FB : ExcBaseFacts B newId initId bmB) (iC : PySem.W.findIn X.K (.ref C) "__init__" = some (some (.ref fI))) (tI : PySem.W.typeIn X.K (.ref fI) = some (.type "function"))
    (F1 : FnOk X.prog X.w X.K X.mg X.base CX k fI fd ps sp) (hr : Room (k + 1) X.A) (hb : KBn X.K fd ps (n + 1) ks g gV) (hx : Passes CX X E) (I : Inv X pins σ H s) (r : Vals vs us) (rz : Vals zs ws) (l1 : vs.length = n) (l2 : zs.length = ks.length) (hz : n ≤ 1000)
    (h : ∀ a, H a = none → sp (gV (.ref a :: vs) zs) (upd H a (exo a C none)) (fun v H2 => v = .non ∧ Q (.ref a) H2) E) :
    wpAny (model X.prog X.w) X.A (call (.ref C) us (ks.zip ws)) (EP X pins σ Q) X.xe s := by
  obtain ⟨nm, N, qn, bs, bm, hdct, sn, sub, ab, col, dd, k0, k1, k2, k3, k5, hC, hT⟩ := PySem.W.excInit_of I.kIn T.ini
  obtain ⟨hp, gs, dr, tk, os⟩ := s
  have hsz : hp.objs.size ≤ hp.objs.size + 1 := Nat.le_succ _
  have hq := h (hp.objs.size + 1) (I.hok.fresh hsz)
  have kk : ∀ b u, hp.get? b = some u → ((hp.push (PySem.W.kdv_tup us)).push (PySem.HandSPX.excO C hp.objs.size)).get? b = some u := fun b u q => Heap.get?_push_of_some _ (Heap.get?_push_of_some _ q)
  have hg : ((hp.push (PySem.W.kdv_tup us)).push (PySem.HandSPX.excO C hp.objs.size)).get? (hp.objs.size + 1) = some (PySem.HandSPX.excO C hp.objs.size) := by heap_get
  have I2 : Inv X pins σ (upd H (hp.objs.size + 1) (exo (hp.objs.size + 1) C none)) ⟨(hp.push (PySem.W.kdv_tup us)).push (PySem.HandSPX.excO C hp.objs.size), gs, dr, tk, os⟩ :=
    I.laid (t' := tk) (a := hp.objs.size + 1) (o := exo (hp.objs.size + 1) C none) (h' := (hp.push (PySem.W.kdv_tup us)).push (PySem.HandSPX.excO C hp.objs.size)) kk hsz (exo_ok hg)
  have r1 : Vals (V.ref (hp.objs.size + 1) :: vs) (Value.ref (hp.objs.size + 1) :: us) := .cons rfl r
  have r2 := hb.rel r1 rz
  have e1 : (Value.ref (hp.objs.size + 1) :: us).length = n + 1 := r1.length.symm.trans (congrArg Nat.succ l1)
  have e2 : ws.length = ks.length := rz.length.symm.trans l2
  have hus : us.length ≤ sizeLine := by
    rw [← r.length, l1, sizeLine_eq]
    omega
  refine wpAny_call (OvX.callOwn FB hT hC (PySem.W.looks_findIn I.kIn iC) (fun self => PySem.W.bind_fn I.kIn self tI) hus
    (codeAny_mono (F1.run _ X.stack _ _ ⟨Value.ref (hp.objs.size + 1) :: us, ks.zip ws⟩ (g (Value.ref (hp.objs.size + 1) :: us) ws) _ _ E (hr.make C us (ks.zip ws)) (I2.env0.make C us (ks.zip ws)) (hb.to _ _ ws I2.kIn e1 e2) r2 hq) fun r s' hq' => ?_))
  cases r with
  | error er => exact hx pins σ _ _ er s' I2 hq'
  | ok fl =>
    cases fl with
    | ret u =>
      obtain ⟨v, H', I3, rv, ev, q3⟩ := I2.after hq'
      subst ev
      exact ⟨rv, ⟨V.ref (hp.objs.size + 1), H', I3, rfl, q3⟩⟩
    | next => exact False.elim hq'
    | brk => exact False.elim hq'
    | cont => exact False.elim hq'
/-- a new exception: C(e, .., k = v, ..) -/
def tEx (C : Addr) (n m : Nat) (sp : Sp) (gV : List V → List V → List V) (E : XK) (t tk : TA) : TE := fun σ H Q => t σ H fun vs H1 => tk σ H1 fun zs H2 => vs.length = n ∧ zs.length = m ∧ n ≤ 1000 ∧
  ∀ a, H2 a = none → sp (gV (.ref a :: vs) zs) (upd H2 a (exo a C none)) (fun v H3 => v = .non ∧ Q (.ref a) H3) E
theorem pe_ex (T : OvX.ExK X.K C bmB newId) (FB : ExcBaseFacts B newId initId bmB) (iC : PySem.W.findIn X.K (.ref C) "__init__" = some (some (.ref fI))) (tI : PySem.W.typeIn X.K (.ref fI) = some (.type "function"))
    (F1 : FnOk X.prog X.w X.K X.mg X.base CX k fI fd ps sp) (hr : Room (k + 1) X.A) (hg : Gl X x) (hm : X.mg x = some (.ref C)) (hb : KBn X.K fd ps (n + 1) [] g gV) (hx : Passes CX X E) (ha : PA X (e :: es) t)
    (hdb : (x == ("__debug__" : Str)) = false := by decide) (he : starEach (e :: es) X.env = (false, eval e X.env) :: starEach es X.env := by rfl) (hpl : (backTo pos (starEach es X.env)).any (·.1) = false := by rfl) :
    PE X (.Call (.Name x p) (e :: es) [] pos) (tEx C n 0 sp gV E t tNil) := by
  refine ⟨fun pins s σ H Q I h => ?_⟩
  refine wpAny_Call_Name_kw (ld_glob I hg hm ?_ hdb)
  refine PySem.W.callWith_K (h₀ := X.base) I.ok.mod.kin T.kC (thn (ha.run pos pins s σ H _ I h) fun us s1 ⟨vs, H1, I1, r, q⟩ => ⟨I1.kIn, ?_⟩) he hpl
  obtain ⟨l1, l2, hz, q⟩ := q
  exact run_ex (ks := []) (zs := []) (ws := []) T FB iC tI F1 hr hb hx I1 r .nil l1 rfl hz q
/-- C() -/
theorem pe_ex0 (T : OvX.ExK X.K C bmB newId) (FB : ExcBaseFacts B newId initId bmB) (iC : PySem.W.findIn X.K (.ref C) "__init__" = some (some (.ref fI))) (tI : PySem.W.typeIn X.K (.ref fI) = some (.type "function"))
    (F1 : FnOk X.prog X.w X.K X.mg X.base CX k fI fd ps sp) (hr : Room (k + 1) X.A) (hg : Gl X x) (hm : X.mg x = some (.ref C)) (hb : KBn X.K fd ps 1 [] g gV) (hx : Passes CX X E)
    (hdb : (x == ("__debug__" : Str)) = false := by decide) : PE X (.Call (.Name x p) [] [] pos) (tEx C 0 0 sp gV E tNil tNil) := by
  refine ⟨fun pins s σ H Q I h => ?_⟩
  refine wpAny_Call_Name_kw (ld_glob I hg hm ?_ hdb)
  obtain ⟨l1, l2, hz, q⟩ := h
  exact PySem.W.callWith_K0 I.kIn T.kC (run_ex (ks := []) (zs := []) (ws := []) (vs := []) (us := []) T FB iC tI F1 hr hb hx I .nil .nil rfl rfl hz q)
/-- C(k = v, ..) -/
theorem pe_exK (T : OvX.ExK X.K C bmB newId) (FB : ExcBaseFacts B newId initId bmB) (iC : PySem.W.findIn X.K (.ref C) "__init__" = some (some (.ref fI))) (tI : PySem.W.typeIn X.K (.ref fI) = some (.type "function"))
    (F1 : FnOk X.prog X.w X.K X.mg X.base CX k fI fd ps sp) (hr : Room (k + 1) X.A) (hg : Gl X x) (hm : X.mg x = some (.ref C)) (hb : KBn X.K fd ps 1 ks g gV) (hx : Passes CX X E) (hkw : PK X kws tk)
    (hall : (backToKw pos (keywordEach kws X.env)).all (·.1.isSome) = true := by rfl) (hks : (backToKw pos (keywordEach kws X.env)).filterMap (·.1) = ks := by rfl) (hdb : (x == ("__debug__" : Str)) = false := by decide)
    (hpl : ((backTo pos (starEach [] X.env)).any (·.1) || (backToKw pos (keywordEach kws X.env)).any (·.1.isNone)) = false := by rfl) :
    PE X (.Call (.Name x p) [] kws pos) (tEx C 0 ks.length sp gV E tNil tk) := by
  refine ⟨fun pins s σ H Q I h => ?_⟩
  refine wpAny_Call_Name_kw (ld_glob I hg hm ?_ hdb)
  refine PySem.W.callWith_KW0 (h₀ := X.base) I.ok.mod.kin T.kC hall ?_ hpl
  refine thn (hkw.run pos pins s σ H _ I h) fun ws s2 ⟨zs, H2, I2, rz, l1, l2, hz, q2⟩ => ⟨I2.kIn, ?_⟩
  rw [hks]
  exact run_ex (us := []) (vs := []) T FB iC tI F1 hr hb hx I2 .nil rz rfl l2 hz q2
/-- an exception of the class at C at a, with the attributes fs -/
def Exc (K : PySem.W.Frag) (H : Hp) (a C : Addr) (fs : List (Str × V)) : Prop := ∃ bmB newId, OvX.ExK K C bmB newId ∧ ((fs = [] ∧ H a = some (exo a C none)) ∨ ∃ dx, H a = some (exo a C (some dx)) ∧ H dx = some (exd dx fs))
theorem Exc.same {K : PySem.W.Frag} {H H' : Hp} {a C : Addr} {fs : List (Str × V)} (h : Exc K H a C fs) (s : Same H H') : Exc K H' a C fs := by
  obtain ⟨b, m, T, h⟩ := h
  rcases h with ⟨e, h⟩ | ⟨dx, h1, h2⟩
  · exact ⟨b, m, T, .inl ⟨e, s _ _ h⟩⟩
  · exact ⟨b, m, T, .inr ⟨dx, s _ _ h1, s _ _ h2⟩⟩
/-- e.f -/
def tExf (K : PySem.W.Frag) (f : Str) (te : TE) : TE := fun σ H Q => te σ H fun x H1 => ∃ (a C : Addr) (fs : List (Str × V)) (v : V), x = .ref a ∧ Exc K H1 a C fs ∧ PySem.W.findIn K (.ref C) f = some none ∧ fs.lookup f = some v ∧ Q v H1
theorem pe_exf {f : Str} (he : PE X e te) (hb : attributeBase e f X.env (eval e X.env) = eval e X.env := by rfl) : PE X (.Attribute e f pos) (tExf X.K f te) := by
  refine ⟨fun pins s σ H Q I h => ?_⟩
  refine attr_of hb (thn (he.run pins s σ H _ I h) fun u s1 hh => ?_)
  obtain ⟨y, H1, I1, rx, a, C, fs, v, ex, ⟨bmB, newId, T, hE⟩, hno, l, q⟩ := hh
  subst ex
  obtain rfl : u = Value.ref a := rx
  rcases hE with ⟨rfl, _⟩ | ⟨dx, h1, h2⟩
  · cases l
  obtain ⟨t1, ho⟩ := exo_at I1.hok h1
  obtain ⟨mA, hns, rel⟩ := exd_at I1.hok h2
  obtain ⟨od, hod, hl⟩ := lookIn_ns hns
  obtain ⟨u, hu, ru⟩ := RelO.some_of (v := v) (o := mA f) (by rw [← l]; exact rel f)
  have J : PySem.W.InstAt s1.heap a { cls := .ref C, dict := some dx, data := .fields #[.ref t1, .none, .none, .none, .bool false, .none] } C (some od) := ⟨ho, rfl, rfl, hod⟩
  exact HandSPX.exc_get I1.kIn J T.ga T.gg T.exC (PySem.W.findObj_own T.hd hno rfl (by rw [hl, hu])) (handed_of ru) ⟨v, H1, I1.tok _, ru, q⟩
/-- what isinstance asks of it -/
theorem exc_kit {pins : List (Addr × Obj)} {σ : L2.St} {H : Hp} {s : Shared} {a : Addr} {fs : List (Str × V)} (I : Inv X pins σ H s) (h : Exc X.K H a C fs) : ∃ P : Heap → Prop, PySem.W.KitX X.K (.ref a) (.ref C) P ∧ P s.heap := by
  obtain ⟨bmB, newId, T, hE⟩ := h
  obtain ⟨cd, hcd, _⟩ := PySem.W.any_some T.hd
  have hs : (PySem.W.clsIn X.K C).isSome = true := by rw [hcd]; rfl
  rcases hE with ⟨_, h1⟩ | ⟨dx, h1, h2⟩
  · obtain ⟨t1, ho⟩ := exo_at I.hok h1
    exact ⟨_, PySem.W.kitx_exc hs T.ga T.gg T.exC T.ca T.sp T.tk T.mr, show PySem.W.InstAt s.heap a _ C none from ⟨ho, rfl, rfl, trivial⟩⟩
  · obtain ⟨t1, ho⟩ := exo_at I.hok h1
    obtain ⟨mA, hns, rel⟩ := exd_at I.hok h2
    obtain ⟨od, hod, hl⟩ := lookIn_ns hns
    exact ⟨_, PySem.W.kitx_exc hs T.ga T.gg T.exC T.ca T.sp T.tk T.mr, show PySem.W.InstAt s.heap a _ C (some od) from ⟨ho, rfl, rfl, hod⟩⟩
/-- isinstance(e, c) -/
def rIsX (K : PySem.W.Frag) : List V → Hp → VK → Prop := fun xs H Q => ∃ (a C : Addr) (fs : List (Str × V)) (c : V) (u : Value) (b : Bool), xs = [.ref a, c] ∧ ClsV c u ∧ Exc K H a C fs ∧ PySem.W.kitOne K (.ref C) u = some b ∧ Q (.bl b) H
theorem call_isX : CallR X (.builtin "isinstance") (rIsX X.K) := by
  intro pins s σ H xs us Q I r h
  obtain ⟨a, C, fs, c, u, b, rfl, k, ex, e, q⟩ := h
  obtain ⟨u1, u2, rfl, r1, r2⟩ := vals2 r
  have e2 := k.eq r2
  subst e2
  obtain rfl : u1 = Value.ref a := r1
  obtain ⟨P, Z, p⟩ := exc_kit I ex
  exact PySem.W.kia_one Z I.kIn p e (fun z => nomatch z) fun tk => ⟨.bl b, H, I.tok tk, rfl, q⟩
/-- isinstance(e, (c1, c2, ..)) -/
def rIsXT (K : PySem.W.Frag) : List V → Hp → VK → Prop := fun xs H Q => ∃ (a C : Addr) (fs : List (Str × V)) (tp : Addr) (cs : List V) (us : List Value) (b : Bool), xs = [.ref a, .ref tp] ∧ H tp = some (.tup cs) ∧ Paired ClsV cs us ∧ Exc K H a C fs ∧ PySem.W.kitAny K (.ref C) us = some b ∧ Q (.bl b) H
theorem call_isXT : CallR X (.builtin "isinstance") (rIsXT X.K) := by
  intro pins s σ H xs us Q I r h
  obtain ⟨a, C, fs, tp, cs, ws, b, rfl, hT, k, ex, e, q⟩ := h
  obtain ⟨u1, u2, rfl, r1, r2⟩ := vals2 r
  obtain rfl : u2 = Value.ref tp := r2
  obtain rfl : u1 = Value.ref a := r1
  obtain ⟨P, Z, p⟩ := exc_kit I ex
  obtain ⟨_, its, rv, o, h1, h2, n, h3⟩ := (show ObjOk X.prog X.w H s.heap tp (.tup cs) from I.hok tp _ hT)
  have e3 := ClsV.all k rv
  subst e3
  obtain ⟨oc, od, dt, sl⟩ := o
  simp only at h2 h3
  subst h2 h3
  exact PySem.W.kia_tup Z I.kIn p h1 e (fun z => nomatch z) fun tk => ⟨.bl b, H, I.tok tk, rfl, q⟩
end
end Ov

set_option Elab.async false
set_option linter.all false
set_option maxRecDepth 100000
set_option maxHeartbeats 4000000
namespace Ov
open PySem L2
def top (i : Nat) : Stmt := PySem.Challenge.pw_overlooks_k15_errors_by_hand.main.body.getD i (.Pass ⟨0, 0, 0, 0⟩)
abbrev sCell : Stmt := top 18
abbrev sBox : Stmt := top 19
abbrev sTake : Stmt := top 20
abbrev sSame : Stmt := top 21
/-! heaps -/
def SameB (p : Addr) (H H' : Hp) : Prop := ∀ b o, b ≠ p → H b = some o → H' b = some o
theorem SameB.refl (p : Addr) (H : Hp) : SameB p H H := fun _ _ _ h => h
theorem SameB.trans {p : Addr} {H H1 H2 : Hp} (a : SameB p H H1) (b : SameB p H1 H2) : SameB p H H2 := fun c o n h => b c o n (a c o n h)
theorem SameB.of {p : Addr} {H H' : Hp} (a : Same H H') : SameB p H H' := fun c o _ h => a c o h
theorem SameB.upd {p : Addr} {H : Hp} (o : HO) : SameB p H (upd H p o) := fun b u n h => by rw [upd_ne n]; exact h
theorem same_new {H : Hp} {p : Addr} (h : H p = none) (o : HO) : Same H (upd H p o) := fun b u q => by rw [upd_ne (ne_of_none q h)]; exact q
def Bx (H : Hp) (p : Addr) (n : Int) : Prop := ∃ b0 b1 b2 : Int, H p = some (.lst [.int b0, .int b1, .int b2]) ∧ 0 ≤ b0 ∧ 0 ≤ b1 ∧ b1 < 2 ^ 62 ∧ 0 ≤ b2 ∧ b2 ≤ n
theorem Bx.mono {H : Hp} {p : Addr} {n m : Int} (h : Bx H p n) (e : n ≤ m) : Bx H p m := by
  obtain ⟨b0, b1, b2, h1, h2, h3, h4, h5, h6⟩ := h
  exact ⟨b0, b1, b2, h1, h2, h3, h4, h5, by omega⟩
theorem Bx.same {H H' : Hp} {p : Addr} {n : Int} (h : Bx H p n) (e : Same H H') : Bx H' p n := by
  obtain ⟨b0, b1, b2, h1, h2⟩ := h
  exact ⟨b0, b1, b2, e _ _ h1, h2⟩
theorem small {n : Nat} (h : n ≤ 1000) : n ≤ sizeLine := Nat.le_of_lt (small1000 h)
theorem flag64 (b : Bool) : -(2 ^ 64) < (if b = true then (1 : Int) else 0) ∧ (if b = true then (1 : Int) else 0) < 2 ^ 64 := by
  cases b <;> decide
theorem Bx.upd {H : Hp} {p : Addr} {b0 b1 b2 n : Int} (p0 : 0 ≤ b0) (p1 : 0 ≤ b1) (p1' : b1 < 2 ^ 62) (p2 : 0 ≤ b2) (p2' : b2 ≤ n) : Bx (upd H p (.lst [.int b0, .int b1, .int b2])) p n := ⟨b0, b1, b2, upd_same, p0, p1, p1', p2, p2'⟩
theorem fac7 (x : Int) : -(2 ^ 64) < x % 40009 + 7 ∧ x % 40009 + 7 < 2 ^ 64 := by omega
/-! promises -/
def spCell (K : PySem.W.Frag) : Sp := fun vs H Q _ => ∃ (a : Addr) (ns : List Int) (k : Int), vs = [.ref a, .int k] ∧ SqL K H a (ns.map V.int) ∧ 0 ≤ k ∧ ∀ v : Int, Q (.int v) H
def spBox (K : PySem.W.Frag) : Sp := fun vs H Q _ => ∃ (a : Addr) (ns : List Int) (k : Int), vs = [.ref a, .int k] ∧ SqL K H a (ns.map V.int) ∧ 0 ≤ k ∧ k ≤ 3 ∧ ∀ (p : Addr) (H' : Hp), Same H H' → H p = none → Bx H' p 0 → Q (.ref p) H'
def spTake (n : Nat) : Sp := fun vs H Q _ => ∃ (p : Addr) (m c e : Int), vs = [.ref p, .int m] ∧ Bx H p c ∧ c ≤ 2 ^ 50 + 2 ∧ 1 ≤ m ∧ m ≤ 1000000000 ∧ 1 ≤ n ∧ ((m ≤ 10000000 ∧ e = 1) ∨ (2 ≤ n ∧ c ≤ 2 ^ 50 ∧ e = 2)) ∧
  ∀ (v : Int) (H' : Hp), 0 ≤ v → v < m → SameB p H H' → Bx H' p (c + e) → Q (.int v) H'
section
variable {P : Program} {w : World} {K : PySem.W.Frag} {mg : Str → Option Value} {base : Heap} {f g : Addr} {fd gd : FuncData}
theorem scCell : FnScope ["_law_script", "_law_k"] ["_law_script", "_law_k"] (defScope sCell) := ⟨rfl, rfl, rfl, by decide +kernel, rfl, by decide +kernel, by decide +kernel⟩
theorem ok_cell (F : Fun K "_law_cell_at" "_law_cell_at" sCell f fd) (ml : mg "len" = none) : FnOk P w K mg base CX0 1 f fd ["_law_script", "_law_k"] (spCell K) := by
  refine F.ok scCell (fun vs H Q E h => ?_) (fun cdv A outer s H vs Q E hr h => ?_)
  · obtain ⟨a, ns, k, rfl, _⟩ := h
    rfl
  obtain ⟨a, ns, k, rfl, hS, h0, q⟩ := h
  refine ⟨_, pss_cons (ps_if (pt_cmpR op_lt (pv 1) (pe_callB call_len_seq rfl ml PySem.boot_len (pa_cons (pv 0) pa_nil)) (nomark _)) (pss_one (ps_ret (pe_ix ix_list (pv 0) (pv 1) (fun _ _ => rfl)))) pss_nil) (pss_one (ps_ret pe_int)), ?_⟩
  have hl : (ns.map V.int).length = ns.length := List.length_map _
  refine ⟨_, rfl, _, rfl, a, _, rfl, .inl hS, _, _, rfl, rfl, _, rfl, ?_⟩
  refine ite2 (fun c => ?_) (fun c => ?_)
  · have c' : k < (((ns.map V.int).length : Nat) : Int) := of_decide_eq_true c
    rw [hl] at c'
    have hk : k.toNat < ns.length := by omega
    have q1 : atI (ns.map V.int) ((k.toNat : Nat) : Int) = some (.int ns[k.toNat]) := atI_nat (by rw [List.getElem?_map, List.getElem?_eq_getElem hk] <;> rfl)
    rw [show ((k.toNat : Nat) : Int) = k by omega] at q1
    exact ⟨_, rfl, _, rfl, a, _, _, _, rfl, rfl, hS, q1, q _⟩
  · exact q _
theorem scBox : FnScope ["_law_script", "_law_k", "_law_core"] ["_law_script", "_law_k"] (defScope sBox) := ⟨rfl, rfl, rfl, by decide +kernel, rfl, by decide +kernel, by decide +kernel⟩
theorem ok_box (F : Fun K "_law_box" "_law_box" sBox f fd) (G : FnOk P w K mg base CX0 1 g gd ["_law_script", "_law_k"] (spCell K)) (bG : Binds K gd ["_law_script", "_law_k"] []) (kG : PySem.W.keepIn K (.ref g) = true) (mG : mg "_law_cell_at" = some (.ref g)) (ma : mg "abs" = none) (mi : mg "int" = none) :
    FnOk P w K mg base CX0 2 f fd ["_law_script", "_law_k"] (spBox K) := by
  refine F.ok scBox (fun vs H Q E h => ?_) (fun cdv A outer s H vs Q E hr h => ?_)
  · obtain ⟨a, ns, k, rfl, _⟩ := h
    rfl
  obtain ⟨a, ns, k, rfl, hS, h0, h3, q⟩ := h
  refine ⟨_, pss_cons (ps_set (i := 2) scBox.nd rfl (Or.inl rfl) (pe_call G hr rfl mG kG bG .nil pass0 (pa_cons (pv 0) (pa_cons (pv 1) pa_nil))))
    (pss_one (ps_ret (pe_lst (pa_cons (pe_op op_mul (pe_callB call_abs rfl ma (by decide +kernel) (pa_cons (pv 2) pa_nil)) (pe_callTy call_int1 rfl mi (by decide +kernel) (pa_cons (pe_cmpR op_ge (pe_callB call_abs rfl ma (by decide +kernel) (pa_cons (pv 2) pa_nil)) (pe_op op_pow pe_int pe_int) (nomark _)) pa_nil)))
      (pa_cons (pe_op op_add (pe_op op_add (pe_op op_mod (pv 2) pe_int) (pe_op op_mul pe_int (pv 1))) pe_int) (pa_cons pe_int pa_nil)))))), ?_⟩
  refine ⟨_, rfl, _, rfl, a, ns, k, rfl, hS, h0, fun v => ?_⟩
  refine ⟨_, rfl, _, rfl, _, rfl, _, rfl, _, _, rfl, rfl, ⟨by decide, by decide, by decide⟩, _, _, rfl, rfl, ?_⟩
  refine Or.inr ⟨_, rfl, ?_⟩
  refine ⟨_, _, rfl, rfl, Or.inr (flag64 _), ?_⟩
  refine ⟨_, rfl, _, _, rfl, rfl, (by show (0 : Int) < 2305843009213693951; decide), _, rfl, _, _, rfl, rfl, .inl ⟨by decide, by decide⟩, _, _, rfl, rfl, _, _, rfl, rfl, ?_⟩
  refine ⟨(by show 3 ≤ sizeLine; exact small (by decide)), fun p hp => ?_⟩
  refine q p _ (same_new hp _) hp ⟨_, _, _, upd_same, ?_, ?_, ?_, Int.le_refl _, Int.le_refl _⟩
  · split <;> split <;> omega
  · have := Int.emod_nonneg v (show (2305843009213693951 : Int) ≠ 0 by decide)
    omega
  · have := Int.emod_lt_of_pos v (show (0 : Int) < 2305843009213693951 by decide)
    omega
theorem scTake : FnScope ["_law_box_here", "_law_below", "_law_found", "_law_once", "_law_twice"] ["_law_box_here", "_law_below"] (defScope sTake) := ⟨rfl, rfl, rfl, by decide +kernel, rfl, by decide +kernel, by decide +kernel⟩
theorem ok_take1 {n : Nat} (F : Fun K "_law_take" "_law_take" sTake f fd) (G : FnOk P w K mg base CX0 n f fd ["_law_box_here", "_law_below"] (spTake n)) (bG : Binds K fd ["_law_box_here", "_law_below"] []) (mG : mg "_law_take" = some (.ref f)) :
    FnOk P w K mg base CX0 (n + 1) f fd ["_law_box_here", "_law_below"] (spTake (n + 1)) := by
  refine F.ok scTake (fun vs H Q E h => ?_) (fun cdv A outer s H vs Q E hr h => ?_)
  · obtain ⟨p, m, c, e, rfl, _⟩ := h
    rfl
  obtain ⟨p, m, c, e, rfl, ⟨b0, b1, b2, hb, p0, p1, p1', p2, p2'⟩, hc, m1, m2, _, hn, q⟩ := h
  refine ⟨_, pss_cons (ps_if (pt_cmpR op_gt (pe_ix ix_list (pv 0) pe_int (fun _ _ => rfl)) pe_int (nomark _))
      (pss_cons (ps_set (i := 2) scTake.nd rfl (Or.inl rfl) (pe_op op_mod (pe_ix ix_list (pv 0) pe_int (fun _ _ => rfl)) (pv 1)))
        (pss_cons (ps_asg (pe_op op_fdiv (pe_ix ix_list (pv 0) pe_int (fun _ _ => rfl)) (pv 1)) (pg_sub (pv 0) pe_int set_list))
          (pss_one (ps_ret (pv 2))))) pss_nil)
    (pss_cons (ps_if (pt_cmpR op_gt (pv 1) (pe_op op_pow pe_int pe_int) (nomark _))
      (pss_one (ps_ret (pe_op op_mod (pe_op op_add (pe_call G hr rfl mG F.kp bG .nil pass0 (pa_cons (pv 0) (pa_cons (pe_op op_pow pe_int pe_int) pa_nil)))
        (pe_op op_mul (pe_op op_pow pe_int pe_int) (pe_call G hr rfl mG F.kp bG .nil pass0 (pa_cons (pv 0) (pa_cons (pe_op op_add (pe_op op_fdiv (pv 1) (pe_op op_pow pe_int pe_int)) pe_int) pa_nil))))) (pv 1)))) pss_nil)
    (pss_cons (ps_asg (pe_op op_add (pe_ix ix_list (pv 0) pe_int (fun _ _ => rfl)) pe_int) (pg_sub (pv 0) pe_int set_list))
    (pss_cons (ps_set (i := 3) scTake.nd rfl (Or.inl rfl) (pe_op op_mod (pe_op op_mul (pe_op op_add (pe_ix ix_list (pv 0) pe_int (fun _ _ => rfl)) (pe_op op_mul pe_int (pe_ix ix_list (pv 0) pe_int (fun _ _ => rfl)))) (pe_op op_add pe_int (pe_ix ix_list (pv 0) pe_int (fun _ _ => rfl)))) pe_int))
    (pss_cons (ps_set (i := 4) scTake.nd rfl (Or.inl rfl) (pe_op op_mod (pe_op op_mul (pe_op op_add (pe_op op_add (pv 3) (pe_ix ix_list (pv 0) pe_int (fun _ _ => rfl))) (pe_op op_fdiv (pe_ix ix_list (pv 0) pe_int (fun _ _ => rfl)) pe_int)) (pe_op op_add (pe_op op_mod (pv 3) pe_int) pe_int)) pe_int))
    (pss_one (ps_ret (pe_op op_mod (pe_op op_fdiv (pe_op op_mod (pe_op op_add (pe_op op_mul (pv 4) pe_int) (pv 3)) pe_int) pe_int) (pv 1)))))))), ?_⟩
  have i0 : atI [V.int b0, V.int b1, V.int b2] 0 = some (V.int b0) := atI_nat (j := 0) rfl
  refine ⟨_, rfl, p, _, _, _, rfl, rfl, SqL.of hb, i0, _, _, rfl, rfl, _, rfl, ?_⟩
  refine ite2 (fun z => ?_) (fun z => ?_)
  · have z' : b0 > 0 := of_decide_eq_true z
    refine ⟨_, rfl, p, _, _, _, rfl, rfl, SqL.of hb, i0, _, rfl, _, _, rfl, rfl, (by omega : (0 : Int) < m), ?_⟩
    refine ⟨_, rfl, p, _, _, _, rfl, rfl, SqL.of hb, i0, _, rfl, _, _, rfl, rfl, ⟨by omega, by omega⟩, ?_⟩
    refine ⟨_, rfl, p, _, _, 0, rfl, rfl, hb, rfl, ?_⟩
    refine ⟨_, rfl, q _ _ (Int.emod_nonneg _ (by omega)) (Int.emod_lt_of_pos _ (by omega)) (SameB.upd _) (Bx.upd (Int.ediv_nonneg p0 (by omega)) p1 p1' p2 (by omega))⟩
  · have z' : ¬ b0 > 0 := of_decide_eq_false (Bool.eq_false_iff.mpr z)
    refine ⟨_, rfl, _, _, rfl, rfl, ⟨by decide, by decide, by decide⟩, _, _, rfl, rfl, _, rfl, ?_⟩
    have e7 : (10 : Int) ^ Int.toNat 7 = 10000000 := by decide
    refine ite2 (fun y => ?_) (fun y => ?_)
    · have y' : m > 10 ^ Int.toNat 7 := of_decide_eq_true y
      rw [e7] at y'
      have n2 : 2 ≤ n + 1 ∧ c ≤ 2 ^ 50 ∧ e = 2 := by omega
      refine ⟨_, rfl, _, _, rfl, rfl, ⟨by decide, by decide, by decide⟩, p, _, c, 1, rfl, ⟨b0, b1, b2, hb, p0, p1, p1', p2, p2'⟩, by omega, by decide, by decide, by omega, .inl ⟨by decide, rfl⟩, fun v H1 v0 v1 s1 x1 => ?_⟩
      refine ⟨_, _, rfl, rfl, ⟨by decide, by decide, by decide⟩, _, rfl, _, rfl, _, _, rfl, rfl, ⟨by decide, by decide, by decide⟩, _, _, rfl, rfl, ⟨by decide, by decide⟩, _, _, rfl, rfl, ?_⟩
      have d7 : 0 ≤ m / 10 ^ Int.toNat 7 ∧ m / 10 ^ Int.toNat 7 ≤ 100 := by rw [e7]; omega
      refine ⟨p, _, c + 1, 1, rfl, x1, by omega, by omega, by omega, by omega, .inl ⟨by omega, rfl⟩, fun v' H2 v0' v1' s2 x2 => ?_⟩
      refine ⟨_, _, rfl, rfl, .inl ⟨by decide, by decide⟩, _, _, rfl, rfl, _, rfl, _, _, rfl, rfl, (by omega : (0 : Int) < m), ?_⟩
      exact q _ _ (Int.emod_nonneg _ (by omega)) (Int.emod_lt_of_pos _ (by omega)) (s1.trans s2) (x2.mono (by omega))
    · have i2 : atI [V.int b0, V.int b1, V.int b2] 2 = some (V.int b2) := atI_nat (j := 2) rfl
      refine ⟨_, rfl, p, _, _, _, rfl, rfl, SqL.of hb, i2, _, _, rfl, rfl, _, rfl, p, _, _, 2, rfl, rfl, hb, rfl, ?_⟩
      have j1 : atI [V.int b0, V.int b1, V.int (b2 + 1)] 1 = some (V.int b1) := atI_nat (j := 1) rfl
      have j2 : atI [V.int b0, V.int b1, V.int (b2 + 1)] 2 = some (V.int (b2 + 1)) := atI_nat (j := 2) rfl
      have e1 : b2 ≤ 2 ^ 50 + 2 := by omega
      refine ⟨_, rfl, p, _, _, _, rfl, rfl, SqL.of upd_same, j1, _, rfl, p, _, _, _, rfl, rfl, SqL.of upd_same, j2, _, _, rfl, rfl, .inl ⟨by decide, by decide⟩, _, _, rfl, rfl, _, rfl, p, _, _, _, rfl, rfl, SqL.of upd_same, j2, _, _, rfl, rfl, _, _, rfl, rfl, .inr ⟨by omega, by omega⟩, _, _, rfl, rfl, (by show (0 : Int) < 2147483647; decide), ?_⟩
      refine ⟨_, rfl, _, rfl, p, _, _, _, rfl, rfl, SqL.of upd_same, j2, _, _, rfl, rfl, _, rfl, p, _, _, _, rfl, rfl, SqL.of upd_same, j1, _, _, rfl, rfl, ⟨by decide, by decide⟩, _, _, rfl, rfl, _, rfl, _, _, rfl, rfl, (by show (0 : Int) < 40009; decide), _, _, rfl, rfl, _, _, rfl, rfl, .inr (fac7 _), _, _, rfl, rfl, (by show (0 : Int) < 2147483629; decide), ?_⟩
      refine ⟨_, rfl, _, _, rfl, rfl, .inr ⟨by decide, by decide⟩, _, rfl, _, _, rfl, rfl, _, _, rfl, rfl, (by show (0 : Int) < 2147483587; decide), _, _, rfl, rfl, ⟨by decide, by decide⟩, _, rfl, _, _, rfl, rfl, (by omega : (0 : Int) < m), ?_⟩
      exact q _ _ (Int.emod_nonneg _ (by omega)) (Int.emod_lt_of_pos _ (by omega)) (SameB.upd _) (Bx.upd p0 p1 p1' (by omega) (by omega))
theorem take_none : FnOk P w K mg base CX0 0 f fd ["_law_box_here", "_law_below"] (spTake 0) := by
  have no : ∀ vs H Q E, ¬ spTake 0 vs H Q E := fun vs H Q E h => by
    obtain ⟨p, m, c, e, _, _, _, _, _, h1, _⟩ := h
    omega
  exact ⟨fun vs H Q E h => absurd h (no vs H Q E), fun A outer s H args us vs Q E _ _ _ _ h => absurd h (no vs H Q E)⟩
theorem ok_take (F : Fun K "_law_take" "_law_take" sTake f fd) (bG : Binds K fd ["_law_box_here", "_law_below"] []) (mG : mg "_law_take" = some (.ref f)) : FnOk P w K mg base CX0 2 f fd ["_law_box_here", "_law_below"] (spTake 2) :=
  ok_take1 F (ok_take1 F take_none bG mG) bG mG
end
end Ov

set_option Elab.async false
set_option linter.all false
set_option maxRecDepth 100000
set_option maxHeartbeats 4000000
namespace Ov
open PySem L2
/-! values that are the same data, of depth below n -/
def flat : V → Bool
  | .non | .bl _ | .int _ | .str _ => true
  | _ => false
def Sm (K : PySem.W.Frag) : Nat → Hp → V → V → Prop
  | 0, _, _, _ => False
  | n + 1, H, x, y => (x = y ∧ flat x = true) ∨ (∃ (a b : Addr) (xs ys : List V), x = .ref a ∧ y = .ref b ∧ ((SqL K H a xs ∧ SqL K H b ys) ∨ (SqT K H a xs ∧ SqT K H b ys)) ∧ xs.length = ys.length ∧ xs.length ≤ 1000 ∧
      ∀ (i : Nat) (u v : V), xs[i]? = some u → ys[i]? = some v → Sm K n H u v)
theorem seqT {K : PySem.W.Frag} {H H' : Hp} {a : Addr} {xs : List V} (e : Same H H') (h : SqT K H a xs) : SqT K H' a xs := by
  rcases h with (h | ⟨o, h⟩) | h
  · exact .inl (.inl (e _ _ h))
  · exact .inl (.inr ⟨o, e _ _ h⟩)
  · exact .inr h
theorem Sm.same {K : PySem.W.Frag} {H H' : Hp} (e : Same H H') : ∀ {n : Nat} {x y : V}, Sm K n H x y → Sm K n H' x y := by
  intro n
  induction n with
  | zero => intro x y h; exact h
  | succ n ih =>
    intro x y h
    unfold Sm at h ⊢
    rcases h with h | ⟨a, b, xs, ys, h1, h2, h3, h4, h5, h6⟩
    · exact .inl h
    · exact .inr ⟨a, b, xs, ys, h1, h2, h3.imp (fun z => ⟨e.seq z.1, e.seq z.2⟩) (fun z => ⟨seqT e z.1, seqT e z.2⟩), h4, h5, fun i u v p q => ih (h6 i u v p q)⟩
theorem walk_zipT {K : PySem.W.Frag} {a b : Addr} {xs ys : List V} {n : Nat} (hn : n = min xs.length ys.length) : Walk (RZ.ItzT K a b) n (fun H => SqT K H a xs ∧ SqT K H b ys) (YPair (fun i => xs[i]?) (fun i => ys[i]?)) := by
  subst hn
  refine ⟨fun i H hi q => ?_, fun H q => ⟨xs, ys, q.1, q.2, by omega⟩, fun i H x H' hi q y => ?_⟩
  · have h1 : i < xs.length := by omega
    have h2 : i < ys.length := by omega
    exact ⟨xs, ys, xs[i], ys[i], q.1, q.2, List.getElem?_eq_getElem h1, List.getElem?_eq_getElem h2⟩
  · obtain ⟨T, u, v, e1, e2, e3, e4, e5⟩ := y
    exact ⟨T, u, v, e1, e2, e3, e4 _ q.1, e5 _ q.2⟩
theorem tyL {K : PySem.W.Frag} {H : Hp} {a : Addr} {xs : List V} (h : SqL K H a xs) : TyX K H (.ref a) (.type "list") := by
  rcases h with (h | ⟨o, h⟩) | ⟨o, its, n, h1, h2, _⟩
  · exact .base (.lst h)
  · exact .base (.frz h)
  · exact .kList h1 h2
theorem tyT {K : PySem.W.Frag} {H : Hp} {a : Addr} {xs : List V} (h : SqT K H a xs) : TyX K H (.ref a) (.type "tuple") := by
  rcases h with (h | ⟨o, h⟩) | ⟨o, its, n, h1, h2, _⟩
  · exact .base (.tup h)
  · exact .fTuple h
  · exact .kTuple h1 h2
theorem iteC {c : Bool} {A B : Prop} (h : c = true) (a : A) : if c = true then A else B := by rw [h]; exact iteT a
theorem iteD {c : Bool} {A B : Prop} (h : c = false) (b : B) : if c = true then A else B := by rw [h]; exact iteF b
def spSame (K : PySem.W.Frag) (n : Nat) : Sp := fun vs H Q _ => ∃ (x y : V), vs = [x, y] ∧ Sm K n H x y ∧ ∀ H', Same H H' → Q (.bl true) H'
theorem kit2 {K : PySem.W.Frag} {a b c : String} {r1 r2 : Bool} (h1 : kitB a b = some r1) (h2 : kitB a c = some r2) : PySem.W.kitAny K (.type a) [.type b, .type c] = some (r1 || r2) :=
  kitAny_cons (kit_ty h1) (fun e => by subst e; exact kitAny_cons (kit_ty h2) (fun e => by subst e; exact kitAny_nil) (fun e => by subst e; rfl)) (fun e => by subst e; rfl)
section
variable {P : Program} {w : World} {K : PySem.W.Frag} {mg : Str → Option Value} {base : Heap} {f g : Addr} {fd gd : FuncData}
abbrev nSame : List Str := ["_law_found", "_law_due", "_law_a", "_law_b"]
abbrev pSame : List Str := ["_law_found", "_law_due"]
theorem scSame : FnScope nSame pSame (defScope sSame) := ⟨rfl, rfl, rfl, by decide +kernel, rfl, by decide +kernel, by decide +kernel⟩
structure Blt (mg : Str → Option Value) : Prop where
  isi : mg "isinstance" = none
  list : mg "list" = none
  tuple : mg "tuple" = none
  len : mg "len" = none
  all : mg "all" = none
  zip : mg "zip" = none
  bool : mg "bool" = none
  str : mg "str" = none
  int : mg "int" = none
theorem ok_same1 {n : Nat} (F : Fun K "_law_same" "_law_same" sSame f fd) (G : FnOk P w K mg base CX0 n f fd pSame (spSame K n)) (bG : Binds K fd pSame []) (mG : mg "_law_same" = some (.ref f)) (B : Blt mg) :
    FnOk P w K mg base CX0 (n + 1) f fd pSame (spSame K (n + 1)) := by
  refine F.ok scSame (fun vs H Q E h => ?_) (fun cdv A outer s H vs Q E hr h => ?_)
  · obtain ⟨x, y, rfl, _⟩ := h
    rfl
  obtain ⟨x, y, rfl, hS, q⟩ := h
  refine ⟨_, pss_cons (ps_if (pt_val (pe_callB call_isiT rfl B.isi (by decide +kernel) (pa_cons (pv 1) (pa_cons (pe_tup (pa_cons (pe_bltn (v := .ty "list") rfl B.list (by decide +kernel) rfl) (pa_cons (pe_bltn (v := .ty "tuple") rfl B.tuple (by decide +kernel) rfl) pa_nil))) pa_nil))))
      (pss_cons (ps_if (PW.pt (pw_or
          (pt_cmpR op_ne (pe_callB call_isi rfl B.isi (by decide +kernel) (pa_cons (pv 0) (pa_cons (pe_bltn (v := .ty "list") rfl B.list (by decide +kernel) rfl) pa_nil)))
            (pe_callB call_isi rfl B.isi (by decide +kernel) (pa_cons (pv 1) (pa_cons (pe_bltn (v := .ty "list") rfl B.list (by decide +kernel) rfl) pa_nil))) (nomark _))
          (pw_or1 (pt_cmpR op_ne (pe_callB call_isi rfl B.isi (by decide +kernel) (pa_cons (pv 0) (pa_cons (pe_bltn (v := .ty "tuple") rfl B.tuple (by decide +kernel) rfl) pa_nil)))
            (pe_callB call_isi rfl B.isi (by decide +kernel) (pa_cons (pv 1) (pa_cons (pe_bltn (v := .ty "tuple") rfl B.tuple (by decide +kernel) rfl) pa_nil))) (nomark _)))))
        (pss_one (ps_ret pe_bl)) pss_nil)
      (pss_one (ps_ret (pe_and (pe_cmpR op_eq (pe_callB call_len_seq rfl B.len PySem.boot_len (pa_cons (pv 0) pa_nil)) (pe_callB call_len_seq rfl B.len PySem.boot_len (pa_cons (pv 1) pa_nil)) (nomark _))
        (pe_one (pe_callB (cr_all rfl) rfl B.all (by decide +kernel) (pa_cons
          (pe_lc (own := [("_law_a", 2), ("_law_b", 3)]) (g := gTup K 2 (gCons (gName 2) (gCons (gName 3) gNil))) rfl scSame.nd (RZ.pi_zipA rfl B.zip (pa_cons (pv 0) (pa_cons (pv 1) pa_nil))) (blkOk_by (N := nSame) (sc := defScope sSame) (by decide +kernel))
            (fun _ _ _ _ _ => by exact pg_tup rfl (pgs_cons (pg_name (i := 2) scSame.nd rfl (Or.inl rfl)) (pgs_cons (pg_name (i := 3) scSame.nd rfl (Or.inl rfl)) pgs_nil)))
            (fun _ _ _ _ _ => pts_nil)
            (fun _ _ _ _ _ => pe_call G hr rfl mG F.kp bG .nil pass0 (pa_cons (pv 2) (pa_cons (pv 3) pa_nil)))) pa_nil))))))) pss_nil)
    (pss_cons (ps_if (PW.pt (pw_or (pt_cmpR op_isN (pv 1) pe_non (nomark _)) (pw_or1 (pt_val (pe_callB call_isiT rfl B.isi (by decide +kernel) (pa_cons (pv 1) (pa_cons (pe_tup (pa_cons (pe_bltn (v := .ty "bool") rfl B.bool (by decide +kernel) rfl) (pa_cons (pe_bltn (v := .ty "str") rfl B.str (by decide +kernel) rfl) pa_nil))) pa_nil)))))))
      (pss_one (ps_ret (pe_and (pe_cmpR op_eq (pv 0) (pv 1) (nomark _))
        (pe_and (pe_cmpR op_eq (pe_callB call_isi rfl B.isi (by decide +kernel) (pa_cons (pv 0) (pa_cons (pe_bltn (v := .ty "bool") rfl B.bool (by decide +kernel) rfl) pa_nil)))
            (pe_callB call_isi rfl B.isi (by decide +kernel) (pa_cons (pv 1) (pa_cons (pe_bltn (v := .ty "bool") rfl B.bool (by decide +kernel) rfl) pa_nil))) (nomark _))
          (pe_one (pe_cmpR op_eq (pe_cmpR op_isN (pv 0) pe_non (nomark _)) (pe_cmpR op_isN (pv 1) pe_non (nomark _)) (nomark _))))))) pss_nil)
    (pss_one (ps_ret (pe_and (pe_callB call_isi rfl B.isi (by decide +kernel) (pa_cons (pv 0) (pa_cons (pe_bltn (v := .ty "int") rfl B.int (by decide +kernel) rfl) pa_nil)))
        (pe_and (pe_not (pe_callB call_isi rfl B.isi (by decide +kernel) (pa_cons (pv 0) (pa_cons (pe_bltn (v := .ty "bool") rfl B.bool (by decide +kernel) rfl) pa_nil))))
          (pe_one (pe_cmpR op_eq (pv 0) (pv 1) (nomark _)))))))), ?_⟩
  have hS' := hS
  unfold Sm at hS
  rcases hS with ⟨rfl, hf⟩ | ⟨a, b, xs, ys, rfl, rfl, hq, hl, hm, hi⟩
  · cases x with
    | non =>
      refine ⟨_, rfl, (by show 2 ≤ sizeLine; exact small (by decide)), fun t ht => ?_⟩
      refine ⟨_, t, _, _, _, false, rfl, upd_same, .cons (.ty _) (.cons (.ty _) .nil), .base .non, kit2 (r1 := false) (r2 := false) (by decide +kernel) (by decide +kernel), _, rfl, ?_⟩
      refine iteF ?_
      refine ⟨_, rfl, rfl, _, rfl, ?_⟩
      refine iteT ?_
      refine iteT ?_
      refine ⟨_, rfl, _, rfl, rfl, _, rfl, ?_⟩
      refine iteT ?_
      refine ⟨_, rfl, _, _, _, _, false, rfl, .ty _, .base .non, kit_ty (by decide +kernel), _, rfl, _, _, _, _, false, rfl, .ty _, .base .non, kit_ty (by decide +kernel), rfl, _, rfl, ?_⟩
      refine iteT ?_
      exact ⟨_, rfl, rfl, _, rfl, rfl, rfl, q _ (same_new ht _)⟩
    | bl z =>
      refine ⟨_, rfl, (by show 2 ≤ sizeLine; exact small (by decide)), fun t ht => ?_⟩
      refine ⟨_, t, _, _, _, false, rfl, upd_same, .cons (.ty _) (.cons (.ty _) .nil), .base (.bl z), kit2 (r1 := false) (r2 := false) (by decide +kernel) (by decide +kernel), _, rfl, ?_⟩
      refine iteF ?_
      refine ⟨_, rfl, rfl, _, rfl, ?_⟩
      refine iteF ?_
      refine ⟨_, rfl, (by show 2 ≤ sizeLine; exact small (by decide)), fun t2 ht2 => ?_⟩
      refine ⟨_, t2, _, _, _, true, rfl, upd_same, .cons (.ty _) (.cons (.ty _) .nil), .base (.bl z), kit2 (r1 := true) (r2 := false) (by decide +kernel) (by decide +kernel), _, rfl, ?_⟩
      refine iteT ?_
      refine ⟨_, rfl, _, rfl, rfl, _, rfl, ?_⟩
      refine iteC (decide_eq_true rfl) ?_
      refine ⟨_, rfl, _, _, _, _, true, rfl, .ty _, .base (.bl z), kit_ty (by decide +kernel), _, rfl, _, _, _, _, true, rfl, .ty _, .base (.bl z), kit_ty (by decide +kernel), rfl, _, rfl, ?_⟩
      refine iteT ?_
      exact ⟨_, rfl, rfl, _, rfl, rfl, rfl, q _ ((same_new ht _).trans (same_new ht2 _))⟩
    | int z =>
      refine ⟨_, rfl, (by show 2 ≤ sizeLine; exact small (by decide)), fun t ht => ?_⟩
      refine ⟨_, t, _, _, _, false, rfl, upd_same, .cons (.ty _) (.cons (.ty _) .nil), .base (.int z), kit2 (r1 := false) (r2 := false) (by decide +kernel) (by decide +kernel), _, rfl, ?_⟩
      refine iteF ?_
      refine ⟨_, rfl, rfl, _, rfl, ?_⟩
      refine iteF ?_
      refine ⟨_, rfl, (by show 2 ≤ sizeLine; exact small (by decide)), fun t2 ht2 => ?_⟩
      refine ⟨_, t2, _, _, _, false, rfl, upd_same, .cons (.ty _) (.cons (.ty _) .nil), .base (.int z), kit2 (r1 := false) (r2 := false) (by decide +kernel) (by decide +kernel), _, rfl, ?_⟩
      refine iteF ?_
      refine ⟨_, rfl, _, _, _, _, true, rfl, .ty _, .base (.int z), kit_ty (by decide +kernel), _, rfl, ?_⟩
      refine iteT ?_
      refine ⟨_, rfl, _, _, _, _, false, rfl, .ty _, .base (.int z), kit_ty (by decide +kernel), _, rfl, _, rfl, ?_⟩
      refine iteT ?_
      refine ⟨_, rfl, _, rfl, rfl, ?_⟩
      have d : Q (.bl (decide (V.int z = V.int z))) (upd (upd H t (.tup [.ty "list", .ty "tuple"])) t2 (.tup [.ty "bool", .ty "str"])) := by
        rw [decide_eq_true rfl]
        exact q _ ((same_new ht _).trans (same_new ht2 _))
      exact d
    | str z =>
      refine ⟨_, rfl, (by show 2 ≤ sizeLine; exact small (by decide)), fun t ht => ?_⟩
      refine ⟨_, t, _, _, _, false, rfl, upd_same, .cons (.ty _) (.cons (.ty _) .nil), .base (.str z), kit2 (r1 := false) (r2 := false) (by decide +kernel) (by decide +kernel), _, rfl, ?_⟩
      refine iteF ?_
      refine ⟨_, rfl, rfl, _, rfl, ?_⟩
      refine iteF ?_
      refine ⟨_, rfl, (by show 2 ≤ sizeLine; exact small (by decide)), fun t2 ht2 => ?_⟩
      refine ⟨_, t2, _, _, _, true, rfl, upd_same, .cons (.ty _) (.cons (.ty _) .nil), .base (.str z), kit2 (r1 := false) (r2 := true) (by decide +kernel) (by decide +kernel), _, rfl, ?_⟩
      refine iteT ?_
      refine ⟨_, rfl, _, rfl, rfl, _, rfl, ?_⟩
      refine iteC (decide_eq_true rfl) ?_
      refine ⟨_, rfl, _, _, _, _, false, rfl, .ty _, .base (.str z), kit_ty (by decide +kernel), _, rfl, _, _, _, _, false, rfl, .ty _, .base (.str z), kit_ty (by decide +kernel), rfl, _, rfl, ?_⟩
      refine iteT ?_
      exact ⟨_, rfl, rfl, _, rfl, rfl, rfl, q _ ((same_new ht _).trans (same_new ht2 _))⟩
    | _ => exact Bool.noConfusion hf
  · rcases hq with ⟨h1, h2⟩ | ⟨h1, h2⟩
    · refine ⟨_, rfl, (by show 2 ≤ sizeLine; exact small (by decide)), fun t ht => ?_⟩
      have g1 := same_new ht (.tup [.ty "list", .ty "tuple"])
      refine ⟨_, t, _, _, _, true, rfl, upd_same, .cons (.ty _) (.cons (.ty _) .nil), tyL (g1.seq h2), kit2 (r1 := true) (r2 := false) (by decide +kernel) (by decide +kernel), _, rfl, ?_⟩
      refine iteT ?_
      refine ⟨_, rfl, _, _, _, _, true, rfl, .ty _, tyL (g1.seq h1), kit_ty (by decide +kernel), _, rfl, _, _, _, _, true, rfl, .ty _, tyL (g1.seq h2), kit_ty (by decide +kernel), rfl, _, rfl, ?_⟩
      refine iteF ?_
      refine ⟨_, rfl, _, _, _, _, false, rfl, .ty _, tyL (g1.seq h1), kit_ty (by decide +kernel), _, rfl, _, _, _, _, false, rfl, .ty _, tyL (g1.seq h2), kit_ty (by decide +kernel), rfl, _, rfl, ?_⟩
      refine iteF ?_
      refine ⟨_, rfl, a, _, rfl, .inl (g1.seq h1), _, rfl, b, _, rfl, .inl (g1.seq h2), rfl, _, rfl, ?_⟩
      refine iteC (by rw [hl]; exact decide_eq_true rfl) ?_
      refine ⟨_, rfl, _, rfl, a, b, xs, ys, rfl, .inl ⟨g1.seq h1, g1.seq h2, fun D hD => ?_⟩⟩
      refine lc_it (walk_zip (xs := xs) (ys := ys) (n := xs.length) (by omega)) (fun i H' => H' D = some (.lst (List.replicate i (.bl true))) ∧ Same (upd H t (.tup [.ty "list", .ty "tuple"])) H') ⟨upd_same, same_new hD _⟩ (fun i H' _ z => ⟨Same.seq (g1.trans z.2) h1, Same.seq (g1.trans z.2) h2⟩) ?_ ?_
      · intro i x H1 H2 hi' z y
        obtain ⟨z1, z2⟩ := z
        obtain ⟨T, u, v, rfl, hT, rfl, e1, e2⟩ := y
        have g2 := same_new hT (.tup [u, v])
        refine ⟨T, _, rfl, SqT.of upd_same, rfl, _, _, rfl, _, _, rfl, rfl, rfl, ?_⟩
        refine ⟨_, rfl, _, rfl, u, v, rfl, (hi i u v e1 e2).same (g1.trans (z2.trans g2)), fun H3 s3 => ?_⟩
        refine ⟨_, s3 _ _ (g2 _ _ z1), (by rw [List.length_replicate]; exact small1000 (by omega)), ?_, ?_⟩
        · rw [upd_same, List.replicate_succ']
        · exact fun c o hc => by
            have hc2 := s3 _ _ (g2 _ _ (z2 _ _ hc))
            rw [upd_ne (ne_of_none hc hD)]
            exact hc2
      · intro H1 z
        refine ⟨D, List.replicate xs.length true, rfl, SqL.of (by rw [List.map_replicate]; exact z.1), ?_⟩
        rw [show (List.replicate xs.length true).all id = true by simp]
        exact q _ (g1.trans z.2)
    · refine ⟨_, rfl, (by show 2 ≤ sizeLine; exact small (by decide)), fun t ht => ?_⟩
      have g1 := same_new ht (.tup [.ty "list", .ty "tuple"])
      refine ⟨_, t, _, _, _, true, rfl, upd_same, .cons (.ty _) (.cons (.ty _) .nil), tyT (seqT g1 h2), kit2 (r1 := false) (r2 := true) (by decide +kernel) (by decide +kernel), _, rfl, ?_⟩
      refine iteT ?_
      refine ⟨_, rfl, _, _, _, _, false, rfl, .ty _, tyT (seqT g1 h1), kit_ty (by decide +kernel), _, rfl, _, _, _, _, false, rfl, .ty _, tyT (seqT g1 h2), kit_ty (by decide +kernel), rfl, _, rfl, ?_⟩
      refine iteF ?_
      refine ⟨_, rfl, _, _, _, _, true, rfl, .ty _, tyT (seqT g1 h1), kit_ty (by decide +kernel), _, rfl, _, _, _, _, true, rfl, .ty _, tyT (seqT g1 h2), kit_ty (by decide +kernel), rfl, _, rfl, ?_⟩
      refine iteF ?_
      refine ⟨_, rfl, a, _, rfl, .inr (seqT g1 h1), _, rfl, b, _, rfl, .inr (seqT g1 h2), rfl, _, rfl, ?_⟩
      refine iteC (by rw [hl]; exact decide_eq_true rfl) ?_
      refine ⟨_, rfl, _, rfl, a, b, xs, ys, rfl, .inr ⟨seqT g1 h1, seqT g1 h2, fun D hD => ?_⟩⟩
      refine lc_it (walk_zipT (xs := xs) (ys := ys) (n := xs.length) (by omega)) (fun i H' => H' D = some (.lst (List.replicate i (.bl true))) ∧ Same (upd H t (.tup [.ty "list", .ty "tuple"])) H') ⟨upd_same, same_new hD _⟩ (fun i H' _ z => ⟨seqT (g1.trans z.2) h1, seqT (g1.trans z.2) h2⟩) ?_ ?_
      · intro i x H1 H2 hi' z y
        obtain ⟨z1, z2⟩ := z
        obtain ⟨T, u, v, rfl, hT, rfl, e1, e2⟩ := y
        have g2 := same_new hT (.tup [u, v])
        refine ⟨T, _, rfl, SqT.of upd_same, rfl, _, _, rfl, _, _, rfl, rfl, rfl, ?_⟩
        refine ⟨_, rfl, _, rfl, u, v, rfl, (hi i u v e1 e2).same (g1.trans (z2.trans g2)), fun H3 s3 => ?_⟩
        refine ⟨_, s3 _ _ (g2 _ _ z1), (by rw [List.length_replicate]; exact small1000 (by omega)), ?_, ?_⟩
        · rw [upd_same, List.replicate_succ']
        · exact fun c o hc => by
            have hc2 := s3 _ _ (g2 _ _ (z2 _ _ hc))
            rw [upd_ne (ne_of_none hc hD)]
            exact hc2
      · intro H1 z
        refine ⟨D, List.replicate xs.length true, rfl, SqL.of (by rw [List.map_replicate]; exact z.1), ?_⟩
        rw [show (List.replicate xs.length true).all id = true by simp]
        exact q _ (g1.trans z.2)
theorem same_none : FnOk P w K mg base CX0 0 f fd pSame (spSame K 0) := by
  have no : ∀ vs H Q E, ¬ spSame K 0 vs H Q E := fun vs H Q E h => by
    obtain ⟨x, y, _, h, _⟩ := h
    exact h
  exact ⟨fun vs H Q E h => absurd h (no vs H Q E), fun A outer s H args us vs Q E _ _ _ _ h => absurd h (no vs H Q E)⟩
theorem ok_same (F : Fun K "_law_same" "_law_same" sSame f fd) (bG : Binds K fd pSame []) (mG : mg "_law_same" = some (.ref f)) (B : Blt mg) : ∀ n, FnOk P w K mg base CX0 n f fd pSame (spSame K n)
  | 0 => same_none
  | n + 1 => ok_same1 F (ok_same F bG mG B n) bG mG B
end
end Ov

set_option Elab.async false
set_option linter.all false
set_option maxRecDepth 100000
set_option maxHeartbeats 4000000
namespace Ov
open PySem L2
abbrev tlValueError : List Value := [.type "ValueError", .type "Exception", .type "BaseException", .type "object"]
abbrev tlLookupError : List Value := [.type "LookupError", .type "Exception", .type "BaseException", .type "object"]
abbrev tlRuntimeError : List Value := [.type "RuntimeError", .type "Exception", .type "BaseException", .type "object"]
abbrev tlOverflowError : List Value := [.type "OverflowError", .type "ArithmeticError", .type "Exception", .type "BaseException", .type "object"]
/-- self.f = v -/
def spIni (K : PySem.W.Frag) (C : Addr) (bmB : List Value) (newId : String) (f : Str) : Sp := fun vs H Q _ => ∃ (a : Addr) (v : V), vs = [.ref a, v] ∧ OvX.ExK K C bmB newId ∧ PySem.W.findIn K (.ref C) f = some none ∧ H a = some (exo a C none) ∧
  ∀ dx, H dx = none → dx ≠ a → Q .non (upd (upd H dx (exd dx [(f, v)])) a (exo a C (some dx)))
section
variable {P : Program} {w : World} {K : PySem.W.Frag} {mg : Str → Option Value} {base : Heap} {f C : Addr} {fd : FuncData}
abbrev sBadText : Stmt := inClass (top 2) 0
theorem scBadText : FnScope ["self", "text"] ["self", "text"] (defScope sBadText) := ⟨rfl, rfl, rfl, by decide +kernel, rfl, by decide +kernel, by decide +kernel⟩
theorem iniBadText (F : Fun K "__init__" "BadText.__init__" sBadText f fd) : FnOk P w K mg base CX0 1 f fd ["self", "text"] (spIni K C tlValueError "ValueError.__new__" "text") := by
  refine F.ok scBadText (fun vs H Q E h => ?_) (fun cdv A outer s H vs Q E hr h => ?_)
  · obtain ⟨a, v, rfl, _⟩ := h
    rfl
  obtain ⟨a, v, rfl, T, hn, ha, q⟩ := h
  exact ⟨_, pss_one (ps_st1 (newId := "ValueError.__new__") PySem.F.store_ValueError (pv 0) (pv 1)), _, rfl, _, rfl, a, C, rfl, T, hn, ha, q⟩
abbrev sBadLine : Stmt := inClass (top 3) 0
theorem scBadLine : FnScope ["self", "number"] ["self", "number"] (defScope sBadLine) := ⟨rfl, rfl, rfl, by decide +kernel, rfl, by decide +kernel, by decide +kernel⟩
theorem iniBadLine (F : Fun K "__init__" "BadLine.__init__" sBadLine f fd) : FnOk P w K mg base CX0 1 f fd ["self", "number"] (spIni K C tlValueError "ValueError.__new__" "number") := by
  refine F.ok scBadLine (fun vs H Q E h => ?_) (fun cdv A outer s H vs Q E hr h => ?_)
  · obtain ⟨a, v, rfl, _⟩ := h
    rfl
  obtain ⟨a, v, rfl, T, hn, ha, q⟩ := h
  exact ⟨_, pss_one (ps_st1 (newId := "ValueError.__new__") PySem.F.store_ValueError (pv 0) (pv 1)), _, rfl, _, rfl, a, C, rfl, T, hn, ha, q⟩
abbrev sKnown : Stmt := inClass (top 4) 0
theorem scKnown : FnScope ["self", "height"] ["self", "height"] (defScope sKnown) := ⟨rfl, rfl, rfl, by decide +kernel, rfl, by decide +kernel, by decide +kernel⟩
theorem iniKnown (F : Fun K "__init__" "Known.__init__" sKnown f fd) : FnOk P w K mg base CX0 1 f fd ["self", "height"] (spIni K C tlValueError "ValueError.__new__" "height") := by
  refine F.ok scKnown (fun vs H Q E h => ?_) (fun cdv A outer s H vs Q E hr h => ?_)
  · obtain ⟨a, v, rfl, _⟩ := h
    rfl
  obtain ⟨a, v, rfl, T, hn, ha, q⟩ := h
  exact ⟨_, pss_one (ps_st1 (newId := "ValueError.__new__") PySem.F.store_ValueError (pv 0) (pv 1)), _, rfl, _, rfl, a, C, rfl, T, hn, ha, q⟩
abbrev sGap : Stmt := inClass (top 6) 0
theorem scGap : FnScope ["self", "index"] ["self", "index"] (defScope sGap) := ⟨rfl, rfl, rfl, by decide +kernel, rfl, by decide +kernel, by decide +kernel⟩
theorem iniGap (F : Fun K "__init__" "Gap.__init__" sGap f fd) : FnOk P w K mg base CX0 1 f fd ["self", "index"] (spIni K C tlValueError "ValueError.__new__" "index") := by
  refine F.ok scGap (fun vs H Q E h => ?_) (fun cdv A outer s H vs Q E hr h => ?_)
  · obtain ⟨a, v, rfl, _⟩ := h
    rfl
  obtain ⟨a, v, rfl, T, hn, ha, q⟩ := h
  exact ⟨_, pss_one (ps_st1 (newId := "ValueError.__new__") PySem.F.store_ValueError (pv 0) (pv 1)), _, rfl, _, rfl, a, C, rfl, T, hn, ha, q⟩
abbrev sNoPerson : Stmt := inClass (top 7) 0
theorem scNoPerson : FnScope ["self", "height"] ["self", "height"] (defScope sNoPerson) := ⟨rfl, rfl, rfl, by decide +kernel, rfl, by decide +kernel, by decide +kernel⟩
theorem iniNoPerson (F : Fun K "__init__" "NoPerson.__init__" sNoPerson f fd) : FnOk P w K mg base CX0 1 f fd ["self", "height"] (spIni K C tlLookupError "LookupError.__new__" "height") := by
  refine F.ok scNoPerson (fun vs H Q E h => ?_) (fun cdv A outer s H vs Q E hr h => ?_)
  · obtain ⟨a, v, rfl, _⟩ := h
    rfl
  obtain ⟨a, v, rfl, T, hn, ha, q⟩ := h
  exact ⟨_, pss_one (ps_st1 (newId := "LookupError.__new__") PySem.F.store_LookupError (pv 0) (pv 1)), _, rfl, _, rfl, a, C, rfl, T, hn, ha, q⟩
abbrev sNoPlace : Stmt := inClass (top 8) 0
theorem scNoPlace : FnScope ["self", "place"] ["self", "place"] (defScope sNoPlace) := ⟨rfl, rfl, rfl, by decide +kernel, rfl, by decide +kernel, by decide +kernel⟩
theorem iniNoPlace (F : Fun K "__init__" "NoPlace.__init__" sNoPlace f fd) : FnOk P w K mg base CX0 1 f fd ["self", "place"] (spIni K C tlLookupError "LookupError.__new__" "place") := by
  refine F.ok scNoPlace (fun vs H Q E h => ?_) (fun cdv A outer s H vs Q E hr h => ?_)
  · obtain ⟨a, v, rfl, _⟩ := h
    rfl
  obtain ⟨a, v, rfl, T, hn, ha, q⟩ := h
  exact ⟨_, pss_one (ps_st1 (newId := "LookupError.__new__") PySem.F.store_LookupError (pv 0) (pv 1)), _, rfl, _, rfl, a, C, rfl, T, hn, ha, q⟩
abbrev sNoNumber : Stmt := inClass (top 9) 0
theorem scNoNumber : FnScope ["self", "number"] ["self", "number"] (defScope sNoNumber) := ⟨rfl, rfl, rfl, by decide +kernel, rfl, by decide +kernel, by decide +kernel⟩
theorem iniNoNumber (F : Fun K "__init__" "NoNumber.__init__" sNoNumber f fd) : FnOk P w K mg base CX0 1 f fd ["self", "number"] (spIni K C tlLookupError "LookupError.__new__" "number") := by
  refine F.ok scNoNumber (fun vs H Q E h => ?_) (fun cdv A outer s H vs Q E hr h => ?_)
  · obtain ⟨a, v, rfl, _⟩ := h
    rfl
  obtain ⟨a, v, rfl, T, hn, ha, q⟩ := h
  exact ⟨_, pss_one (ps_st1 (newId := "LookupError.__new__") PySem.F.store_LookupError (pv 0) (pv 1)), _, rfl, _, rfl, a, C, rfl, T, hn, ha, q⟩
abbrev sNoOperation : Stmt := inClass (top 10) 0
theorem scNoOperation : FnScope ["self", "many"] ["self", "many"] (defScope sNoOperation) := ⟨rfl, rfl, rfl, by decide +kernel, rfl, by decide +kernel, by decide +kernel⟩
theorem iniNoOperation (F : Fun K "__init__" "NoOperation.__init__" sNoOperation f fd) : FnOk P w K mg base CX0 1 f fd ["self", "many"] (spIni K C tlLookupError "LookupError.__new__" "many") := by
  refine F.ok scNoOperation (fun vs H Q E h => ?_) (fun cdv A outer s H vs Q E hr h => ?_)
  · obtain ⟨a, v, rfl, _⟩ := h
    rfl
  obtain ⟨a, v, rfl, T, hn, ha, q⟩ := h
  exact ⟨_, pss_one (ps_st1 (newId := "LookupError.__new__") PySem.F.store_LookupError (pv 0) (pv 1)), _, rfl, _, rfl, a, C, rfl, T, hn, ha, q⟩
abbrev sBarred : Stmt := inClass (top 12) 0
theorem scBarred : FnScope ["self", "height"] ["self", "height"] (defScope sBarred) := ⟨rfl, rfl, rfl, by decide +kernel, rfl, by decide +kernel, by decide +kernel⟩
theorem iniBarred (F : Fun K "__init__" "Barred.__init__" sBarred f fd) : FnOk P w K mg base CX0 1 f fd ["self", "height"] (spIni K C tlRuntimeError "RuntimeError.__new__" "height") := by
  refine F.ok scBarred (fun vs H Q E h => ?_) (fun cdv A outer s H vs Q E hr h => ?_)
  · obtain ⟨a, v, rfl, _⟩ := h
    rfl
  obtain ⟨a, v, rfl, T, hn, ha, q⟩ := h
  exact ⟨_, pss_one (ps_st1 (newId := "RuntimeError.__new__") PySem.F.store_RuntimeError (pv 0) (pv 1)), _, rfl, _, rfl, a, C, rfl, T, hn, ha, q⟩
abbrev sTooMany : Stmt := inClass (top 13) 0
theorem scTooMany : FnScope ["self", "many"] ["self", "many"] (defScope sTooMany) := ⟨rfl, rfl, rfl, by decide +kernel, rfl, by decide +kernel, by decide +kernel⟩
theorem iniTooMany (F : Fun K "__init__" "TooMany.__init__" sTooMany f fd) : FnOk P w K mg base CX0 1 f fd ["self", "many"] (spIni K C tlOverflowError "OverflowError.__new__" "many") := by
  refine F.ok scTooMany (fun vs H Q E h => ?_) (fun cdv A outer s H vs Q E hr h => ?_)
  · obtain ⟨a, v, rfl, _⟩ := h
    rfl
  obtain ⟨a, v, rfl, T, hn, ha, q⟩ := h
  exact ⟨_, pss_one (ps_st1 (newId := "OverflowError.__new__") PySem.F.store_OverflowError (pv 0) (pv 1)), _, rfl, _, rfl, a, C, rfl, T, hn, ha, q⟩
abbrev sFull : Stmt := inClass (top 14) 0
theorem scFull : FnScope ["self", "many"] ["self", "many"] (defScope sFull) := ⟨rfl, rfl, rfl, by decide +kernel, rfl, by decide +kernel, by decide +kernel⟩
theorem iniFull (F : Fun K "__init__" "Full.__init__" sFull f fd) : FnOk P w K mg base CX0 1 f fd ["self", "many"] (spIni K C tlOverflowError "OverflowError.__new__" "many") := by
  refine F.ok scFull (fun vs H Q E h => ?_) (fun cdv A outer s H vs Q E hr h => ?_)
  · obtain ⟨a, v, rfl, _⟩ := h
    rfl
  obtain ⟨a, v, rfl, T, hn, ha, q⟩ := h
  exact ⟨_, pss_one (ps_st1 (newId := "OverflowError.__new__") PySem.F.store_OverflowError (pv 0) (pv 1)), _, rfl, _, rfl, a, C, rfl, T, hn, ha, q⟩
/-- Contradiction(cycle), cycle a list -/
def spCon (K : PySem.W.Frag) (C : Addr) : Sp := fun vs H Q _ => ∃ (a p : Addr) (xs : List V), vs = [.ref a, .ref p] ∧ OvX.ExK K C tlValueError "ValueError.__new__" ∧ PySem.W.findIn K (.ref C) "cycle" = some none ∧ SqL K H p xs ∧ H a = some (exo a C none) ∧
  ∀ H2 l, Same H H2 → H l = none → H2 l = some (.lst xs) → ∀ dx, H2 dx = none → dx ≠ a → Q .non (upd (upd H2 dx (exd dx [("cycle", .ref l)])) a (exo a C (some dx)))
abbrev sContradiction : Stmt := inClass (top 5) 0
theorem scContradiction : FnScope ["self", "cycle"] ["self", "cycle"] (defScope sContradiction) := ⟨rfl, rfl, rfl, by decide +kernel, rfl, by decide +kernel, by decide +kernel⟩
theorem iniContradiction (F : Fun K "__init__" "Contradiction.__init__" sContradiction f fd) (B : Blt mg) : FnOk P w K mg base CX0 1 f fd ["self", "cycle"] (spCon K C) := by
  refine F.ok scContradiction (fun vs H Q E h => ?_) (fun cdv A outer s H vs Q E hr h => ?_)
  · obtain ⟨a, p, xs, rfl, _⟩ := h
    rfl
  obtain ⟨a, p, xs, rfl, T, hn, hp, ha, q⟩ := h
  refine ⟨_, pss_one (ps_st1 (newId := "ValueError.__new__") PySem.F.store_ValueError (pv 0) (pe_ifExp
    (pt_val (pe_callB call_isiT rfl B.isi (by decide +kernel) (pa_cons (pv 1) (pa_cons (pe_tup (pa_cons (pe_bltn (v := .ty "list") rfl B.list (by decide +kernel) rfl) (pa_cons (pe_bltn (v := .ty "tuple") rfl B.tuple (by decide +kernel) rfl) pa_nil))) pa_nil))))
    (pe_callTy call_list_of rfl B.list (by decide +kernel) (pa_cons (pv 1) pa_nil)) (pv 1))), ?_⟩
  refine ⟨_, rfl, (by show 2 ≤ sizeLine; exact small (by decide)), fun t ht => ?_⟩
  have g1 := same_new ht (.tup [.ty "list", .ty "tuple"])
  refine ⟨_, t, _, _, _, true, rfl, upd_same, .cons (.ty _) (.cons (.ty _) .nil), tyL (g1.seq hp), kit2 (r1 := true) (r2 := false) (by decide +kernel) (by decide +kernel), _, rfl, ?_⟩
  refine iteT ?_
  refine ⟨_, rfl, p, _, rfl, .inl (g1.seq hp), fun l hl => ?_⟩
  have g2 := same_new hl (.lst xs)
  have ln : H l = none := by
    cases e : H l with
    | none => rfl
    | some o =>
      rw [g1 _ _ e] at hl
      cases hl
  exact ⟨_, rfl, a, C, rfl, T, hn, g2 _ _ (g1 _ _ ha), fun dx n ne => q _ l (g1.trans g2) ln upd_same dx n ne⟩
/-- Blocked(pair), pair a tuple -/
def spBlo (K : PySem.W.Frag) (C : Addr) : Sp := fun vs H Q _ => ∃ (a p : Addr) (xs : List V), vs = [.ref a, .ref p] ∧ OvX.ExK K C tlRuntimeError "RuntimeError.__new__" ∧ PySem.W.findIn K (.ref C) "pair" = some none ∧ SqT K H p xs ∧ H a = some (exo a C none) ∧
  ∀ dx, H dx = none → dx ≠ a → Q .non (upd (upd H dx (exd dx [("pair", .ref p)])) a (exo a C (some dx)))
abbrev sBlocked : Stmt := inClass (top 11) 0
theorem scBlocked : FnScope ["self", "pair"] ["self", "pair"] (defScope sBlocked) := ⟨rfl, rfl, rfl, by decide +kernel, rfl, by decide +kernel, by decide +kernel⟩
theorem iniBlocked (F : Fun K "__init__" "Blocked.__init__" sBlocked f fd) (B : Blt mg) : FnOk P w K mg base CX0 1 f fd ["self", "pair"] (spBlo K C) := by
  refine F.ok scBlocked (fun vs H Q E h => ?_) (fun cdv A outer s H vs Q E hr h => ?_)
  · obtain ⟨a, p, xs, rfl, _⟩ := h
    rfl
  obtain ⟨a, p, xs, rfl, T, hn, hp, ha, q⟩ := h
  refine ⟨_, pss_one (ps_st1 (newId := "RuntimeError.__new__") PySem.F.store_RuntimeError (pv 0) (pe_ifExp
    (pt_val (pe_callB call_isi rfl B.isi (by decide +kernel) (pa_cons (pv 1) (pa_cons (pe_bltn (v := .ty "list") rfl B.list (by decide +kernel) rfl) pa_nil))))
    (pe_callTy call_tuple_of rfl B.tuple (by decide +kernel) (pa_cons (pv 1) pa_nil)) (pv 1))), ?_⟩
  refine ⟨_, rfl, _, _, _, _, false, rfl, .ty _, tyT hp, kit_ty (by decide +kernel), _, rfl, ?_⟩
  refine iteF ?_
  exact ⟨_, rfl, _, rfl, a, C, rfl, T, hn, ha, q⟩
def spOth : Sp := fun vs H Q _ => ∃ v, vs = [v] ∧ Q .non H
abbrev sOtherPeople : Stmt := inClass (top 1) 0
theorem scOtherPeople : FnScope ["self"] ["self"] (defScope sOtherPeople) := ⟨rfl, rfl, rfl, by decide +kernel, rfl, by decide +kernel, by decide +kernel⟩
theorem iniOtherPeople (F : Fun K "__init__" "OtherPeople.__init__" sOtherPeople f fd) : FnOk P w K mg base CX0 1 f fd ["self"] spOth := by
  refine F.ok scOtherPeople (fun vs H Q E h => ?_) (fun cdv A outer s H vs Q E hr h => ?_)
  · obtain ⟨v, rfl, _⟩ := h
    rfl
  obtain ⟨v, rfl, q⟩ := h
  exact ⟨_, pss_one ps_pass, q⟩
end
end Ov

set_option Elab.async false
set_option linter.all false
set_option maxRecDepth 100000
set_option maxHeartbeats 4000000
namespace Ov
open PySem L2
/-! list.count of flat items -/
theorem countP_eqU {x : V} : ∀ {xs : List V} {us : List Value}, Vals xs us → xs.all flatV = true → us.countP (eqU x) = xs.countP fun y => eqV y x
  | _, _, .nil, _ => rfl
  | y :: xs, u :: us, .cons r t, f => by
    rw [List.all_cons, Bool.and_eq_true] at f
    rw [List.countP_cons, List.countP_cons, eqU_of r f.1, countP_eqU t f.2]
def rCntF (K : PySem.W.Frag) : V → List V → Hp → VK → Prop := fun x vs H Q => ∃ (p : Addr) (xs : List V) (y : V), x = .ref p ∧ vs = [y] ∧ SqL K H p xs ∧ flatV y = true ∧ xs.all flatV = true ∧ Q (.int ((xs.countP fun z => eqV z y : Nat) : Int)) H
theorem mt_cntF {X : Cx} : MtR X "list.count" (rCntF X.K) := by
  intro pins s σ H x vs v us Q I rx rxs h
  obtain ⟨p, xs, y, rfl, rfl, hs, fy, fx, q⟩ := h
  cases rx
  obtain ⟨u, rfl, ru⟩ := rxs.one
  obtain ⟨its, rv, ⟨⟨cls, dd, data, sl⟩, n, ho, hc, hdn, hd⟩, hlen⟩ := I.list hs
  simp only at hc hd
  subst hc hd
  refine call_meets PySem.F.slot_list_count ⟨_, ho, rfl⟩ PySem.F.entry_list_count (PySem.F.args_list_count_2 _ _)
    (SeqAt.list_countAt p its.toArray n dd sl u (eqU y)) ⟨ho, fun z hz => mem_eqAt ru fy rv fx z (by simpa using hz), ?_⟩
  refine ⟨.int ((xs.countP fun z => eqV z y : Nat) : Int), H, I.tok _, ⟨s.toks, ?_⟩, q⟩
  show Value.int ((its.toArray.toList.countP (eqU y) : Nat) : Int) s.toks = _
  rw [show its.toArray.toList = its by simp, countP_eqU rv fx]
/-! the classes -/
def tl : Nat → List Value
  | 0 => tlValueError
  | 1 => tlLookupError
  | 2 => tlRuntimeError
  | _ => tlOverflowError
def nw : Nat → String
  | 0 => "ValueError.__new__"
  | 1 => "LookupError.__new__"
  | 2 => "RuntimeError.__new__"
  | _ => "OverflowError.__new__"
structure Cl (K : PySem.W.Frag) (C : Addr) (k : Nat) : Prop where
  ex : OvX.ExK K C (tl k) (nw k)
  mro : (PySem.W.clsIn K C).map (·.mro) = some (.ref C :: tl k)
  ty : PySem.W.typeIn K (.ref C) = some (.type "type")
theorem tl_ref (k : Nat) (D : Addr) : (tl k).contains (.ref D) = false := by
  match k with
  | 0 => rfl
  | 1 => rfl
  | 2 => rfl
  | _ + 3 => rfl
theorem Cl.sub {K : PySem.W.Frag} {C : Addr} {k : Nat} (x : Cl K C k) (v : Value) : PySem.W.subIn K (.ref C) v = some ((Value.ref C :: tl k).contains v) := by
  obtain ⟨cd, h1, h2⟩ := Option.map_eq_some_iff.mp x.mro
  show PySem.W.mroIn K C v = _
  unfold PySem.W.mroIn
  rw [h1, Option.bind_some, h2]
  rfl
theorem Cl.own {K : PySem.W.Frag} {C D : Addr} {k j : Nat} (x : Cl K C k) (y : Cl K D j) : PySem.W.kitOne K (.ref C) (.ref D) = some (decide (C = D)) := by
  unfold PySem.W.kitOne
  by_cases h : C = D
  · subst h
    rw [if_pos (beq_self_eq_true _), decide_eq_true rfl]
  · have e : (Value.ref C == Value.ref D) = false := beq_eq_false_iff_ne.mpr fun z => h (Value.ref.inj z)
    rw [e, if_neg Bool.false_ne_true, decide_eq_false h]
    obtain ⟨cd, h1, h2⟩ := Option.map_eq_some_iff.mp y.mro
    show (if ((PySem.W.clsIn K D).isSome && PySem.W.typeIn K (.ref D) == some (.type "type")) = true then PySem.W.subIn K (.ref C) (.ref D) else none) = some false
    rw [h1, y.ty, if_pos (by rfl), x.sub, List.contains_cons, tl_ref]
    rw [show (Value.ref D == Value.ref C) = false from beq_eq_false_iff_ne.mpr fun z => h (Value.ref.inj z).symm]
    rfl
theorem Cl.bas {K : PySem.W.Frag} {C : Addr} {k : Nat} (x : Cl K C k) (T : String) (b : Bool) (hm : PySem.W.kitMeta T = true) (hb : (tl k).contains (.type T) = b) : PySem.W.kitOne K (.ref C) (.type T) = some b := by
  unfold PySem.W.kitOne
  rw [show (Value.ref C == Value.type T) = false from rfl, if_neg Bool.false_ne_true]
  show (if PySem.W.kitMeta T = true then PySem.W.subIn K (.ref C) (.type T) else none) = some b
  rw [if_pos hm, x.sub, List.contains_cons, hb, show (Value.type T == Value.ref C) = false from rfl, Bool.false_or]
structure Ad where
  BadLine : Addr
  BadText : Addr
  Barred : Addr
  Blocked : Addr
  Contradiction : Addr
  Full : Addr
  Gap : Addr
  Known : Addr
  NoNumber : Addr
  NoOperation : Addr
  NoPerson : Addr
  NoPlace : Addr
  OtherPeople : Addr
  TooMany : Addr
def Ad.all (c : Ad) : List Addr := [c.BadLine, c.BadText, c.Barred, c.Blocked, c.Contradiction, c.Full, c.Gap, c.Known, c.NoNumber, c.NoOperation, c.NoPerson, c.NoPlace, c.OtherPeople, c.TooMany]
structure Tb (K : PySem.W.Frag) (mg : Str → Option Value) (c : Ad) : Prop where
  gBadLine : mg "BadLine" = some (.ref c.BadLine)
  xBadLine : Cl K c.BadLine 0
  gBadText : mg "BadText" = some (.ref c.BadText)
  xBadText : Cl K c.BadText 0
  gBarred : mg "Barred" = some (.ref c.Barred)
  xBarred : Cl K c.Barred 2
  gBlocked : mg "Blocked" = some (.ref c.Blocked)
  xBlocked : Cl K c.Blocked 2
  gContradiction : mg "Contradiction" = some (.ref c.Contradiction)
  xContradiction : Cl K c.Contradiction 0
  gFull : mg "Full" = some (.ref c.Full)
  xFull : Cl K c.Full 3
  gGap : mg "Gap" = some (.ref c.Gap)
  xGap : Cl K c.Gap 0
  gKnown : mg "Known" = some (.ref c.Known)
  xKnown : Cl K c.Known 0
  gNoNumber : mg "NoNumber" = some (.ref c.NoNumber)
  xNoNumber : Cl K c.NoNumber 1
  gNoOperation : mg "NoOperation" = some (.ref c.NoOperation)
  xNoOperation : Cl K c.NoOperation 1
  gNoPerson : mg "NoPerson" = some (.ref c.NoPerson)
  xNoPerson : Cl K c.NoPerson 1
  gNoPlace : mg "NoPlace" = some (.ref c.NoPlace)
  xNoPlace : Cl K c.NoPlace 1
  gOtherPeople : mg "OtherPeople" = some (.ref c.OtherPeople)
  xOtherPeople : Cl K c.OtherPeople 0
  gTooMany : mg "TooMany" = some (.ref c.TooMany)
  xTooMany : Cl K c.TooMany 3
  nd : c.all.Nodup
structure Blt2 (mg : Str → Option Value) : Prop where
  ve : mg "ValueError" = none
  le : mg "LookupError" = none
  re : mg "RuntimeError" = none
  oe : mg "OverflowError" = none
  ie : mg "IndexError" = none
  ke : mg "KeyError" = none
  ni : mg "NotImplementedError" = none
theorem Tb.each {K : PySem.W.Frag} {mg : Str → Option Value} {c : Ad} (T : Tb K mg c) {C : Addr} {k : Nat} (x : Cl K C k) : ∀ D ∈ c.all, PySem.W.kitOne K (.ref C) (.ref D) = some (decide (C = D)) := by
  intro D hD
  simp only [Ad.all, List.mem_cons, List.not_mem_nil, or_false] at hD
  rcases hD with rfl | rfl | rfl | rfl | rfl | rfl | rfl | rfl | rfl | rfl | rfl | rfl | rfl | rfl
  · exact x.own T.xBadLine
  · exact x.own T.xBadText
  · exact x.own T.xBarred
  · exact x.own T.xBlocked
  · exact x.own T.xContradiction
  · exact x.own T.xFull
  · exact x.own T.xGap
  · exact x.own T.xKnown
  · exact x.own T.xNoNumber
  · exact x.own T.xNoOperation
  · exact x.own T.xNoPerson
  · exact x.own T.xNoPlace
  · exact x.own T.xOtherPeople
  · exact x.own T.xTooMany
def flagsOf (c : Ad) (C : Addr) : List V := c.all.map fun D => .bl (decide (C = D))
theorem flags_flat (c : Ad) (C : Addr) : (flagsOf c C).all flatV = true := by
  unfold flagsOf
  simp [flatV]
theorem flags_one {c : Ad} (nd : c.all.Nodup) {C : Addr} (h : C ∈ c.all) : (flagsOf c C).countP (fun z => eqV z (.bl true)) = 1 := by
  unfold flagsOf
  rw [List.countP_map]
  have e : ∀ l : List Addr, l.countP ((fun z => eqV z (.bl true)) ∘ fun D => V.bl (decide (C = D))) = l.count C := by
    intro l
    rw [List.count_eq_countP]
    refine List.countP_congr fun D _ => ?_
    show (decide (C = D) == true) = true ↔ (D == C) = true
    rw [beq_iff_eq, decide_eq_true_iff, beq_iff_eq]
    exact eq_comm
  rw [e]
  exact List.Nodup.count nd |>.trans (if_pos h)
def spFlags (K : PySem.W.Frag) (c : Ad) : Sp := fun vs H Q _ => ∃ (a C : Addr) (fs : List (Str × V)) (k : Nat), vs = [.ref a] ∧ Exc K H a C fs ∧ Cl K C k ∧ ∀ H' p, Same H H' → H p = none → H' p = some (.lst (flagsOf c C)) → Q (.ref p) H'
theorem back_none {H H' : Hp} (s : Same H H') {p : Addr} (h : H' p = none) : H p = none := by
  cases e : H p with
  | none => rfl
  | some o =>
    rw [s _ _ e] at h
    cases h
abbrev sFlags : Stmt := top 22
abbrev sOne : Stmt := top 23
section
variable {P : Program} {w : World} {K : PySem.W.Frag} {mg : Str → Option Value} {base : Heap} {f g : Addr} {fd gd : FuncData} {c : Ad}
theorem scFlags : FnScope ["_law_made", "_law_flags_here"] ["_law_made"] (defScope sFlags) := ⟨rfl, rfl, rfl, by decide +kernel, rfl, by decide +kernel, by decide +kernel⟩
theorem ok_flags (F : Fun K "_law_flags" "_law_flags" sFlags f fd) (B : Blt mg) (T : Tb K mg c) : FnOk P w K mg base CX0 1 f fd ["_law_made"] (spFlags K c) := by
  refine F.ok scFlags (fun vs H Q E h => ?_) (fun cdv A outer s H vs Q E hr h => ?_)
  · obtain ⟨a, C, fs, k, rfl, _⟩ := h
    rfl
  obtain ⟨a, C, fs, k, rfl, ex, x, q⟩ := h
  have kt := T.each x
  refine ⟨_, pss_cons (ps_set (i := 1) scFlags.nd rfl (Or.inl rfl) (pe_lst (pa_cons (pe_callB call_isX rfl B.isi (by decide +kernel) (pa_cons (pv 0) (pa_cons (pe_glob (v := .ref c.BadLine) rfl T.gBadLine rfl) pa_nil))) (pa_cons (pe_callB call_isX rfl B.isi (by decide +kernel) (pa_cons (pv 0) (pa_cons (pe_glob (v := .ref c.BadText) rfl T.gBadText rfl) pa_nil))) (pa_cons (pe_callB call_isX rfl B.isi (by decide +kernel) (pa_cons (pv 0) (pa_cons (pe_glob (v := .ref c.Barred) rfl T.gBarred rfl) pa_nil))) (pa_cons (pe_callB call_isX rfl B.isi (by decide +kernel) (pa_cons (pv 0) (pa_cons (pe_glob (v := .ref c.Blocked) rfl T.gBlocked rfl) pa_nil))) pa_nil))))))
    (pss_cons (ps_set (i := 1) scFlags.nd rfl (Or.inl rfl) (pe_op op_cat (pv 1) (pe_lst (pa_cons (pe_callB call_isX rfl B.isi (by decide +kernel) (pa_cons (pv 0) (pa_cons (pe_glob (v := .ref c.Contradiction) rfl T.gContradiction rfl) pa_nil))) (pa_cons (pe_callB call_isX rfl B.isi (by decide +kernel) (pa_cons (pv 0) (pa_cons (pe_glob (v := .ref c.Full) rfl T.gFull rfl) pa_nil))) (pa_cons (pe_callB call_isX rfl B.isi (by decide +kernel) (pa_cons (pv 0) (pa_cons (pe_glob (v := .ref c.Gap) rfl T.gGap rfl) pa_nil))) pa_nil))))))
    (pss_cons (ps_set (i := 1) scFlags.nd rfl (Or.inl rfl) (pe_op op_cat (pv 1) (pe_lst (pa_cons (pe_callB call_isX rfl B.isi (by decide +kernel) (pa_cons (pv 0) (pa_cons (pe_glob (v := .ref c.Known) rfl T.gKnown rfl) pa_nil))) (pa_cons (pe_callB call_isX rfl B.isi (by decide +kernel) (pa_cons (pv 0) (pa_cons (pe_glob (v := .ref c.NoNumber) rfl T.gNoNumber rfl) pa_nil))) (pa_cons (pe_callB call_isX rfl B.isi (by decide +kernel) (pa_cons (pv 0) (pa_cons (pe_glob (v := .ref c.NoOperation) rfl T.gNoOperation rfl) pa_nil))) pa_nil))))))
    (pss_cons (ps_set (i := 1) scFlags.nd rfl (Or.inl rfl) (pe_op op_cat (pv 1) (pe_lst (pa_cons (pe_callB call_isX rfl B.isi (by decide +kernel) (pa_cons (pv 0) (pa_cons (pe_glob (v := .ref c.NoPerson) rfl T.gNoPerson rfl) pa_nil))) (pa_cons (pe_callB call_isX rfl B.isi (by decide +kernel) (pa_cons (pv 0) (pa_cons (pe_glob (v := .ref c.NoPlace) rfl T.gNoPlace rfl) pa_nil))) (pa_cons (pe_callB call_isX rfl B.isi (by decide +kernel) (pa_cons (pv 0) (pa_cons (pe_glob (v := .ref c.OtherPeople) rfl T.gOtherPeople rfl) pa_nil))) pa_nil))))))
    (pss_one (ps_ret (pe_op op_cat (pv 1) (pe_lst (pa_cons (pe_callB call_isX rfl B.isi (by decide +kernel) (pa_cons (pv 0) (pa_cons (pe_glob (v := .ref c.TooMany) rfl T.gTooMany rfl) pa_nil))) pa_nil)))))))), ?_⟩
  refine ⟨_, rfl, a, C, fs, _, _, _, rfl, .own _, ex, kt c.BadLine (by simp [Ad.all]), _, rfl, a, C, fs, _, _, _, rfl, .own _, ex, kt c.BadText (by simp [Ad.all]), _, rfl, a, C, fs, _, _, _, rfl, .own _, ex, kt c.Barred (by simp [Ad.all]), _, rfl, a, C, fs, _, _, _, rfl, .own _, ex, kt c.Blocked (by simp [Ad.all]), (by show 4 ≤ sizeLine; exact small (by decide)), fun p0 h0 => ?_⟩
  have g0 := same_new h0 (.lst [.bl (decide (C = c.BadLine)), .bl (decide (C = c.BadText)), .bl (decide (C = c.Barred)), .bl (decide (C = c.Blocked))])
  have u0 := upd_same (H := H) (a := p0) (o := .lst [.bl (decide (C = c.BadLine)), .bl (decide (C = c.BadText)), .bl (decide (C = c.Barred)), .bl (decide (C = c.Blocked))])
  refine ⟨_, rfl, _, rfl, a, C, fs, _, _, _, rfl, .own _, ex.same g0, kt c.Contradiction (by simp [Ad.all]), _, rfl, a, C, fs, _, _, _, rfl, .own _, ex.same g0, kt c.Full (by simp [Ad.all]), _, rfl, a, C, fs, _, _, _, rfl, .own _, ex.same g0, kt c.Gap (by simp [Ad.all]), (by show 3 ≤ sizeLine; exact small (by decide)), fun l1 hl1 => ?_⟩
  have a1 := same_new hl1 (.lst [.bl (decide (C = c.Contradiction)), .bl (decide (C = c.Full)), .bl (decide (C = c.Gap))])
  refine ⟨p0, l1, _, _, rfl, rfl, a1 _ _ upd_same, upd_same, (by show 4 + 3 ≤ sizeLine; exact small (by decide)), fun p1 h1 => ?_⟩
  have b1 := same_new h1 (.lst [.bl (decide (C = c.BadLine)), .bl (decide (C = c.BadText)), .bl (decide (C = c.Barred)), .bl (decide (C = c.Blocked)), .bl (decide (C = c.Contradiction)), .bl (decide (C = c.Full)), .bl (decide (C = c.Gap))])
  have g1 := ((g0).trans a1).trans b1
  refine ⟨_, rfl, _, rfl, a, C, fs, _, _, _, rfl, .own _, ex.same g1, kt c.Known (by simp [Ad.all]), _, rfl, a, C, fs, _, _, _, rfl, .own _, ex.same g1, kt c.NoNumber (by simp [Ad.all]), _, rfl, a, C, fs, _, _, _, rfl, .own _, ex.same g1, kt c.NoOperation (by simp [Ad.all]), (by show 3 ≤ sizeLine; exact small (by decide)), fun l2 hl2 => ?_⟩
  have a2 := same_new hl2 (.lst [.bl (decide (C = c.Known)), .bl (decide (C = c.NoNumber)), .bl (decide (C = c.NoOperation))])
  refine ⟨p1, l2, _, _, rfl, rfl, a2 _ _ upd_same, upd_same, (by show 7 + 3 ≤ sizeLine; exact small (by decide)), fun p2 h2 => ?_⟩
  have b2 := same_new h2 (.lst [.bl (decide (C = c.BadLine)), .bl (decide (C = c.BadText)), .bl (decide (C = c.Barred)), .bl (decide (C = c.Blocked)), .bl (decide (C = c.Contradiction)), .bl (decide (C = c.Full)), .bl (decide (C = c.Gap)), .bl (decide (C = c.Known)), .bl (decide (C = c.NoNumber)), .bl (decide (C = c.NoOperation))])
  have g2 := ((g1).trans a2).trans b2
  refine ⟨_, rfl, _, rfl, a, C, fs, _, _, _, rfl, .own _, ex.same g2, kt c.NoPerson (by simp [Ad.all]), _, rfl, a, C, fs, _, _, _, rfl, .own _, ex.same g2, kt c.NoPlace (by simp [Ad.all]), _, rfl, a, C, fs, _, _, _, rfl, .own _, ex.same g2, kt c.OtherPeople (by simp [Ad.all]), (by show 3 ≤ sizeLine; exact small (by decide)), fun l3 hl3 => ?_⟩
  have a3 := same_new hl3 (.lst [.bl (decide (C = c.NoPerson)), .bl (decide (C = c.NoPlace)), .bl (decide (C = c.OtherPeople))])
  refine ⟨p2, l3, _, _, rfl, rfl, a3 _ _ upd_same, upd_same, (by show 10 + 3 ≤ sizeLine; exact small (by decide)), fun p3 h3 => ?_⟩
  have b3 := same_new h3 (.lst [.bl (decide (C = c.BadLine)), .bl (decide (C = c.BadText)), .bl (decide (C = c.Barred)), .bl (decide (C = c.Blocked)), .bl (decide (C = c.Contradiction)), .bl (decide (C = c.Full)), .bl (decide (C = c.Gap)), .bl (decide (C = c.Known)), .bl (decide (C = c.NoNumber)), .bl (decide (C = c.NoOperation)), .bl (decide (C = c.NoPerson)), .bl (decide (C = c.NoPlace)), .bl (decide (C = c.OtherPeople))])
  have g3 := ((g2).trans a3).trans b3
  refine ⟨_, rfl, _, rfl, a, C, fs, _, _, _, rfl, .own _, ex.same g3, kt c.TooMany (by simp [Ad.all]), (by show 1 ≤ sizeLine; exact small (by decide)), fun l4 hl4 => ?_⟩
  have a4 := same_new hl4 (.lst [.bl (decide (C = c.TooMany))])
  refine ⟨p3, l4, _, _, rfl, rfl, a4 _ _ upd_same, upd_same, (by show 13 + 1 ≤ sizeLine; exact small (by decide)), fun p4 h4 => ?_⟩
  have b4 := same_new h4 (.lst [.bl (decide (C = c.BadLine)), .bl (decide (C = c.BadText)), .bl (decide (C = c.Barred)), .bl (decide (C = c.Blocked)), .bl (decide (C = c.Contradiction)), .bl (decide (C = c.Full)), .bl (decide (C = c.Gap)), .bl (decide (C = c.Known)), .bl (decide (C = c.NoNumber)), .bl (decide (C = c.NoOperation)), .bl (decide (C = c.NoPerson)), .bl (decide (C = c.NoPlace)), .bl (decide (C = c.OtherPeople)), .bl (decide (C = c.TooMany))])
  have g4 := ((g3).trans a4).trans b4
  exact q _ p4 g4 (back_none ((g3).trans a4) h4) upd_same
end
end Ov

set_option Elab.async false
set_option linter.all false
set_option maxRecDepth 100000
set_option maxHeartbeats 4000000
namespace Ov
open PySem L2
theorem fresh_of {H H1 : Hp} {p : Addr} {o : HO} (e : upd H p o = H1) (hp : H p = none) : Same H H1 ∧ H1 p = some o := by
  subst e
  exact ⟨same_new hp o, upd_same⟩
theorem mut_of {H H1 : Hp} {p : Addr} {o : HO} (e : upd H p o = H1) : SameB p H H1 ∧ H1 p = some o := by
  subst e
  exact ⟨SameB.upd o, upd_same⟩
theorem same_mut {H H1 H2 : Hp} {p : Addr} (a : Same H H1) (hp : H p = none) (b : SameB p H1 H2) : Same H H2 := fun c o h => b c o (ne_of_none h hp) (a c o h)
section
variable {P : Program} {w : World} {K : PySem.W.Frag} {mg : Str → Option Value} {base : Heap} {f g : Addr} {fd gd : FuncData} {c : Ad}
theorem scOne : FnScope ["_law_made", "_law_at", "_law_kinds", "_law_due"] ["_law_made", "_law_at"] (defScope sOne) := ⟨rfl, rfl, rfl, by decide +kernel, rfl, by decide +kernel, by decide +kernel⟩
def spOne (K : PySem.W.Frag) (c : Ad) : Sp := fun vs H Q _ => ∃ (a C : Addr) (fs : List (Str × V)) (k : Nat), vs = [.ref a, .int (k : Int)] ∧ Exc K H a C fs ∧ Cl K C k ∧ C ∈ c.all ∧ k < 4 ∧ ∀ H', Same H H' → Q (.bl true) H'
def kindsOf (k : Nat) : List V := [.bl (decide (k = 0)), .bl (decide (k = 1)), .bl (decide (k = 2)), .bl (decide (k = 3))]
theorem kinds_set {k : Nat} (h : k < 4) : ((List.replicate (Int.toNat 4) [V.bl false]).flatten).set k (.bl true) = kindsOf k := by
  match k, h with
  | 0, _ => rfl
  | 1, _ => rfl
  | 2, _ => rfl
  | 3, _ => rfl
theorem tl_at {k : Nat} (h : k < 4) : (tl k).contains (.type "ValueError") = decide (k = 0) ∧ (tl k).contains (.type "LookupError") = decide (k = 1) ∧ (tl k).contains (.type "RuntimeError") = decide (k = 2) ∧ (tl k).contains (.type "OverflowError") = decide (k = 3) ∧
    (tl k).contains (.type "IndexError") = false ∧ (tl k).contains (.type "KeyError") = false ∧ (tl k).contains (.type "NotImplementedError") = false := by
  match k, h with
  | 0, _ => decide +kernel
  | 1, _ => decide +kernel
  | 2, _ => decide +kernel
  | 3, _ => decide +kernel
def dKinds (k : Nat) : PyData := .list [.bool (decide (k = 0)), .bool (decide (k = 1)), .bool (decide (k = 2)), .bool (decide (k = 3))]
theorem dp_kinds {H : Hp} {p : Addr} {k : Nat} (h : H p = some (.lst (kindsOf k))) : Dp K H (.ref p) (dKinds k) := .lst (SqL.of h) (.cons (.bl _) (.cons (.bl _) (.cons (.bl _) (.cons (.bl _) .nil))))
theorem sh_kinds (k : Nat) : SeqAt.shaped (dKinds k) = true := rfl
theorem ok_one (F : Fun K "_law_one_right" "_law_one_right" sOne f fd) (G : FnOk P w K mg base CX0 1 g gd ["_law_made"] (spFlags K c)) (bG : Binds K gd ["_law_made"] []) (kG : PySem.W.keepIn K (.ref g) = true) (mG : mg "_law_flags" = some (.ref g)) (B : Blt mg) (B2 : Blt2 mg) (T : Tb K mg c) :
    FnOk P w K mg base CX0 2 f fd ["_law_made", "_law_at"] (spOne K c) := by
  refine F.ok scOne (fun vs H Q E h => ?_) (fun cdv A outer s H vs Q E hr h => ?_)
  · obtain ⟨a, C, fs, k, rfl, _⟩ := h
    rfl
  obtain ⟨a, C, fs, k, rfl, ex, x, hc, hk, q⟩ := h
  obtain ⟨t0, t1, t2, t3, t4, t5, t6⟩ := tl_at hk
  refine ⟨_, (pss_cons (ps_if (pt_cmpR op_ne (pe_bm PySem.F.plainAttrs_list PySem.F.slot_list_count PySem.F.type_list_count mt_cntF (pe_call G hr rfl mG kG bG .nil pass0 (pa_cons (pv 0) pa_nil)) (pa_cons pe_bl pa_nil)) pe_int (nomark _)) (pss_one (ps_ret pe_bl)) pss_nil)
    (pss_cons (ps_set (i := 2) scOne.nd rfl (Or.inl rfl) (pe_lst (pa_cons (pe_callB call_isX rfl B.isi (by decide +kernel) (pa_cons (pv 0) (pa_cons (pe_bltn (v := .ty "ValueError") rfl B2.ve (by decide +kernel) rfl) pa_nil))) (pa_cons (pe_callB call_isX rfl B.isi (by decide +kernel) (pa_cons (pv 0) (pa_cons (pe_bltn (v := .ty "LookupError") rfl B2.le (by decide +kernel) rfl) pa_nil))) (pa_cons (pe_callB call_isX rfl B.isi (by decide +kernel) (pa_cons (pv 0) (pa_cons (pe_bltn (v := .ty "RuntimeError") rfl B2.re (by decide +kernel) rfl) pa_nil))) pa_nil)))))
    (pss_cons (ps_expr (pe_bm PySem.F.plainAttrs_list PySem.F.slot_list_append PySem.F.type_list_append mt_append (pv 2) (pa_cons (pe_callB call_isX rfl B.isi (by decide +kernel) (pa_cons (pv 0) (pa_cons (pe_bltn (v := .ty "OverflowError") rfl B2.oe (by decide +kernel) rfl) pa_nil))) pa_nil)))
    (pss_cons (ps_set (i := 3) scOne.nd rfl (Or.inl rfl) (pe_op op_rep (pe_lst (pa_cons pe_bl pa_nil)) pe_int))
    (pss_cons (ps_asg pe_bl (pg_sub (pv 3) (pv 1) set_list))
    (pss_one (ps_ret (pe_and (pe_cmpR (op_eqD hr.units) (pv 2) (pv 3) (nomark _)) (pe_one (pe_not (pe_callB call_isXT rfl B.isi (by decide +kernel) (pa_cons (pv 0) (pa_cons (pe_tup (pa_cons (pe_bltn (v := .ty "IndexError") rfl B2.ie (by decide +kernel) rfl) (pa_cons (pe_bltn (v := .ty "KeyError") rfl B2.ke (by decide +kernel) rfl) (pa_cons (pe_bltn (v := .ty "NotImplementedError") rfl B2.ni (by decide +kernel) rfl) pa_nil)))) pa_nil))))))))))))), ?_⟩
  refine ⟨_, rfl, a, C, fs, k, rfl, ex, x, fun H1 p s1 np hp => ?_⟩
  refine ⟨.inl ⟨rfl, _, SqL.of hp⟩, p, _, _, rfl, rfl, SqL.of hp, rfl, flags_flat c C, ?_⟩
  rw [flags_one T.nd hc]
  refine ⟨rfl, _, rfl, ?_⟩
  refine iteF ?_
  have ex1 := ex.same s1
  refine ⟨_, rfl, a, C, fs, _, _, _, rfl, .ty _, ex1, x.bas "ValueError" _ (by decide +kernel) t0, _, rfl, a, C, fs, _, _, _, rfl, .ty _, ex1, x.bas "LookupError" _ (by decide +kernel) t1, _, rfl, a, C, fs, _, _, _, rfl, .ty _, ex1, x.bas "RuntimeError" _ (by decide +kernel) t2,
    (by show 3 ≤ sizeLine; exact small (by decide)), fun l hl => ?_⟩
  generalize eNew : upd _ l _ = H2
  obtain ⟨s2, u2⟩ := fresh_of eNew hl
  clear eNew
  refine ⟨_, rfl, .inl ⟨rfl, _, SqL.of u2⟩, _, rfl, a, C, fs, _, _, _, rfl, .ty _, ex1.same s2, x.bas "OverflowError" _ (by decide +kernel) t3, l, _, _, rfl, rfl, u2, (by show 3 < sizeLine; exact small1000 (by decide)), ?_⟩
  generalize eMut : upd _ l _ = H3
  obtain ⟨s3, u3⟩ := mut_of eMut
  clear eMut
  have w3 := same_mut s2 hl s3
  refine ⟨(by show 1 ≤ sizeLine; exact small (by decide)), fun m hm => ?_⟩
  generalize eNew : upd _ m _ = H4
  obtain ⟨s4, u4⟩ := fresh_of eNew hm
  clear eNew
  refine ⟨m, _, _, rfl, rfl, u4, by decide, by decide, (by show 1 * 4 ≤ sizeLine; exact small (by decide)), fun n hn => ?_⟩
  generalize eNew : upd _ n _ = H5
  obtain ⟨s5, u5⟩ := fresh_of eNew hn
  clear eNew
  refine ⟨_, rfl, _, rfl, n, _, _, k, rfl, rfl, u5, ?_, ?_⟩
  · show ixN 4 (k : Int) = some k
    unfold ixN
    rw [if_pos (by omega), if_pos (by omega)]
    rfl
  rw [kinds_set hk]
  generalize eMut : upd _ n _ = H6
  obtain ⟨s6, u6⟩ := mut_of eMut
  clear eMut
  have nl : l ≠ n := ne_of_none (s4 _ _ u3) hn
  have ul := s6 l _ nl (s5 _ _ (s4 _ _ u3))
  have w6 := same_mut ((w3.trans s4).trans s5) (back_none (w3.trans s4) hn) s6
  refine ⟨_, rfl, _, rfl, dKinds k, dKinds k, dp_kinds (K := K) ul, dp_kinds u6, sh_kinds k, sh_kinds k, ?_⟩
  rw [SeqAt.eqv_refl (dKinds k) (SeqAt.canLay_of_shaped (sh_kinds k))]
  refine ⟨true, rfl, ?_⟩
  refine iteT ?_
  refine ⟨_, rfl, (by show 3 ≤ sizeLine; exact small (by decide)), fun t ht => ?_⟩
  generalize eNew : upd _ t _ = H7
  obtain ⟨s7, u7⟩ := fresh_of eNew ht
  clear eNew
  refine ⟨a, C, fs, t, _, _, false, rfl, u7, .cons (.ty _) (.cons (.ty _) (.cons (.ty _) .nil)), (ex1.same w6).same s7, ?_, false, rfl, q _ ((s1.trans w6).trans s7)⟩
  exact kitAny_cons (x.bas "IndexError" false (by decide +kernel) t4) (fun _ => kitAny_cons (x.bas "KeyError" false (by decide +kernel) t5) (fun _ => kitAny_cons (x.bas "NotImplementedError" false (by decide +kernel) t6) (fun _ => kitAny_nil) (fun e => nomatch e)) (fun e => nomatch e)) (fun e => nomatch e)
end
end Ov

set_option Elab.async false
set_option linter.all false
set_option maxRecDepth 100000
set_option maxHeartbeats 4000000
namespace Ov
open PySem L2
theorem kbn_of {K : PySem.W.Frag} {x qual : Str} {st : Stmt} {f : Addr} {fd : FuncData} {ps : List Str} (F : Fun K x qual st f fd) (n : Nat) (ks : List Str)
    (h : ∀ (kV doc pm : Value) (an : Option Addr) (cdv ct : Value) (us ws : List Value), us.length = n → ws.length = ks.length → bindArgs (PySem.W.fnOf x qual (defArgs st) (defBody st) (defScope st) .none kV doc pm an cdv ct) ⟨us, ks.zip ws⟩ = pure (ps.zip (us ++ ws))) :
    KBn K fd ps n ks (fun us ws => us ++ ws) (fun vs zs => vs ++ zs) := by
  obtain ⟨oc, od, kV, doc, pm, an, cdv, ct, osl, rfl, lk, hcd⟩ := F.ex
  exact ⟨fun s us ws _ l1 l2 => .of_eq (h kV doc pm an cdv ct us ws l1 l2), fun r1 r2 => r1.append r2⟩
theorem exb (k : Nat) : ∃ B initId, ExcBaseFacts B (nw k) initId (tl k) := by
  match k with
  | 0 => exact ⟨_, _, PySem.F.excBase_ValueError⟩
  | 1 => exact ⟨_, _, PySem.F.excBase_LookupError⟩
  | 2 => exact ⟨_, _, PySem.F.excBase_RuntimeError⟩
  | _ + 3 => exact ⟨_, _, PySem.F.excBase_OverflowError⟩
def E0 : XK := fun _ _ _ => False
/-- the class x at C and its __init__(self, f) -/
structure MkE (P : Program) (w : World) (K : PySem.W.Frag) (mg : Str → Option Value) (base : Heap) (C : Addr) (k : Nat) (x f : Str) (sp : Sp) : Prop where
  cl : Cl K C k
  mgC : mg x = some (.ref C)
  no : PySem.W.findIn K (.ref C) f = some none
  ini : ∃ (fI : Addr) (fd : FuncData), PySem.W.findIn K (.ref C) "__init__" = some (some (.ref fI)) ∧ PySem.W.typeIn K (.ref fI) = some (.type "function") ∧ FnOk P w K mg base CX0 1 fI fd ["self", f] sp ∧
    KBn K fd ["self", f] 2 [] (fun us ws => us ++ ws) (fun vs zs => vs ++ zs) ∧ KBn K fd ["self", f] 1 [f] (fun us ws => us ++ ws) (fun vs zs => vs ++ zs)
/-- how a value becomes an exception -/
abbrev RN := V → Hp → (Addr → Hp → Prop) → Prop
def tNew (R : RN) (t : TA) : TE := fun σ H Q => t σ H fun vs H1 => ∃ v, vs = [v] ∧ R v H1 fun a H2 => Q (.ref a) H2
/-- the promise of __init__ serves R -/
def Serves (C : Addr) (sp : Sp) (R : RN) : Prop := ∀ (v : V) (H : Hp) (Q : Addr → Hp → Prop) (a : Addr), R v H Q → H a = none → sp [.ref a, v] (upd H a (exo a C none)) (fun r H3 => r = .non ∧ Q a H3) E0
section
variable {X : Cx} {k : Nat} {C : Addr} {sp : Sp} {x f : Str} {p pos kpos : Pos} {e : Expr} {t : TA} {te : TE} {R : RN}
theorem pe_new (M : MkE X.prog X.w X.K X.mg X.base C k x f sp) (hs : Serves C sp R) (hr : Room 2 X.A) (hg : Gl X x) (ha : PA X [e] t)
    (hdb : (x == ("__debug__" : Str)) = false := by decide) (he : starEach [e] X.env = (false, eval e X.env) :: starEach [] X.env := by rfl) (hpl : (backTo pos (starEach [] X.env)).any (·.1) = false := by rfl) :
    PE X (.Call (.Name x p) [e] [] pos) (tNew R t) := by
  refine ⟨fun pins s σ H Q I h => ?_⟩
  obtain ⟨B, initId, FB⟩ := exb k
  obtain ⟨fI, fd, iC, tI, F1, b0, bK⟩ := M.ini
  refine wpAny_Call_Name_kw (ld_glob I hg M.mgC ?_ hdb)
  refine PySem.W.callWith_K (h₀ := X.base) I.ok.mod.kin M.cl.ex.kC (thn (ha.run pos pins s σ H _ I h) fun us s1 ⟨vs, H1, I1, r, v, ev, q⟩ => ⟨I1.kIn, ?_⟩) he hpl
  subst ev
  exact run_ex (n := 1) (ks := []) (zs := []) (ws := []) (E := E0) M.cl.ex FB iC tI F1 hr b0 pass0 I1 r .nil rfl rfl (by decide) fun a na => hs v H1 _ a q na
theorem pe_newK (M : MkE X.prog X.w X.K X.mg X.base C k x f sp) (hs : Serves C sp R) (hr : Room 2 X.A) (hg : Gl X x) (ha : PE X e te)
    (hdb : (x == ("__debug__" : Str)) = false := by decide) (hall : (backToKw pos (keywordEach [⟨some f, e, kpos⟩] X.env)).all (·.1.isSome) = true := by rfl) (hks : (backToKw pos (keywordEach [⟨some f, e, kpos⟩] X.env)).filterMap (·.1) = [f] := by rfl)
    (hpl : ((backTo pos (starEach [] X.env)).any (·.1) || (backToKw pos (keywordEach [⟨some f, e, kpos⟩] X.env)).any (·.1.isNone)) = false := by rfl) :
    PE X (.Call (.Name x p) [] [⟨some f, e, kpos⟩] pos) (tNew R (tCons te tNil)) := by
  refine ⟨fun pins s σ H Q I h => ?_⟩
  obtain ⟨B, initId, FB⟩ := exb k
  obtain ⟨fI, fd, iC, tI, F1, b0, bK⟩ := M.ini
  refine wpAny_Call_Name_kw (ld_glob I hg M.mgC ?_ hdb)
  refine PySem.W.callWith_KW0 (h₀ := X.base) I.ok.mod.kin M.cl.ex.kC hall ?_ hpl
  refine thn ((pk_cons ha pk_nil).run pos pins s σ H _ I h) fun ws s2 ⟨zs, H2, I2, rz, v, ev, q⟩ => ⟨I2.kIn, ?_⟩
  subst ev
  rw [hks]
  exact run_ex (n := 0) (us := []) (vs := []) (E := E0) M.cl.ex FB iC tI F1 hr bK pass0 I2 .nil rz rfl rfl (by decide) fun a na => hs v H2 _ a q na
end
/-! the three ways -/
theorem laid {H : Hp} {a dx C : Addr} {f : Str} {v : V} (na : H a = none) (nd : upd H a (exo a C none) dx = none) (ne : dx ≠ a) :
    Same H (upd (upd (upd H a (exo a C none)) dx (exd dx [(f, v)])) a (exo a C (some dx))) := fun b o h => by
  have hb : b ≠ a := ne_of_none h na
  have hd : b ≠ dx := ne_of_none h (by rw [upd_ne ne] at nd; exact nd)
  rw [upd_ne hb, upd_ne hd, upd_ne hb]
  exact h
theorem exc_laid {K : PySem.W.Frag} {H : Hp} {a dx C : Addr} {f : Str} {v : V} {k : Nat} (x : Cl K C k) (ne : dx ≠ a) : Exc K (upd (upd H dx (exd dx [(f, v)])) a (exo a C (some dx))) a C [(f, v)] :=
  ⟨_, _, x.ex, .inr ⟨dx, upd_same, by rw [upd_ne ne]; exact upd_same⟩⟩
def rPlain (K : PySem.W.Frag) (C : Addr) (f : Str) : RN := fun v H Q => ∀ a H', Same H H' → H a = none → Exc K H' a C [(f, v)] → Q a H'
theorem serves_plain {K : PySem.W.Frag} {C : Addr} {f : Str} {k : Nat} (x : Cl K C k) (no : PySem.W.findIn K (.ref C) f = some none) : Serves C (spIni K C (tl k) (nw k) f) (rPlain K C f) := fun v H Q a q na =>
  ⟨a, v, rfl, x.ex, no, upd_same, fun dx nd ne => ⟨rfl, q a _ (laid na nd ne) na (exc_laid x ne)⟩⟩
def rList (K : PySem.W.Frag) (C : Addr) : RN := fun v H Q => ∃ (p : Addr) (xs : List V), v = .ref p ∧ SqL K H p xs ∧ ∀ a l H', Same H H' → H a = none → H l = none → H' l = some (.lst xs) → Exc K H' a C [("cycle", .ref l)] → Q a H'
theorem serves_list {K : PySem.W.Frag} {C : Addr} (x : Cl K C 0) (no : PySem.W.findIn K (.ref C) "cycle" = some none) : Serves C (spCon K C) (rList K C) := fun v H Q a q na => by
  obtain ⟨p, xs, rfl, hp, q⟩ := q
  refine ⟨a, p, xs, rfl, x.ex, no, (same_new na _).seq hp, upd_same, fun H2 l s2 nl hl dx nd ne => ⟨rfl, ?_⟩⟩
  have la : l ≠ a := fun z => by
    rw [z, upd_same] at nl
    cases nl
  have nl' : H l = none := by
    rw [upd_ne la] at nl
    exact nl
  have ld : l ≠ dx := fun z => by
    rw [z, nd] at hl
    cases hl
  refine q a l _ (fun b o h => ?_) na nl' ?_ (exc_laid x ne)
  · have hb : b ≠ a := ne_of_none h na
    have h2 := s2 _ _ (by rw [upd_ne hb]; exact h)
    rw [upd_ne hb, upd_ne (ne_of_none h2 nd)]
    exact h2
  · rw [upd_ne la, upd_ne ld]
    exact hl
def rTup (K : PySem.W.Frag) (C : Addr) : RN := fun v H Q => ∃ (p : Addr) (xs : List V), v = .ref p ∧ SqT K H p xs ∧ ∀ a H', Same H H' → H a = none → Exc K H' a C [("pair", .ref p)] → Q a H'
theorem serves_tup {K : PySem.W.Frag} {C : Addr} (x : Cl K C 2) (no : PySem.W.findIn K (.ref C) "pair" = some none) : Serves C (spBlo K C) (rTup K C) := fun v H Q a q na => by
  obtain ⟨p, xs, rfl, hp, q⟩ := q
  exact ⟨a, p, xs, rfl, x.ex, no, seqT (same_new na _) hp, upd_same, fun dx nd ne => ⟨rfl, q a _ (laid na nd ne) na (exc_laid x ne)⟩⟩
/-- C() -/
structure MkE0 (P : Program) (w : World) (K : PySem.W.Frag) (mg : Str → Option Value) (base : Heap) (C : Addr) (k : Nat) (x : Str) : Prop where
  cl : Cl K C k
  mgC : mg x = some (.ref C)
  ini : ∃ (fI : Addr) (fd : FuncData), PySem.W.findIn K (.ref C) "__init__" = some (some (.ref fI)) ∧ PySem.W.typeIn K (.ref fI) = some (.type "function") ∧ FnOk P w K mg base CX0 1 fI fd ["self"] spOth ∧ KBn K fd ["self"] 1 [] (fun us ws => us ++ ws) (fun vs zs => vs ++ zs)
def tNew0 (K : PySem.W.Frag) (C : Addr) : TE := fun σ H Q => ∀ a H', Same H H' → H a = none → Exc K H' a C [] → Q (.ref a) H'
theorem pe_new0 {X : Cx} {k : Nat} {C : Addr} {x : Str} {p pos : Pos} (M : MkE0 X.prog X.w X.K X.mg X.base C k x) (hr : Room 2 X.A) (hg : Gl X x) (hdb : (x == ("__debug__" : Str)) = false := by decide) : PE X (.Call (.Name x p) [] [] pos) (tNew0 X.K C) := by
  refine ⟨fun pins s σ H Q I h => ?_⟩
  obtain ⟨B, initId, FB⟩ := exb k
  obtain ⟨fI, fd, iC, tI, F1, b0⟩ := M.ini
  refine wpAny_Call_Name_kw (ld_glob I hg M.mgC ?_ hdb)
  exact PySem.W.callWith_K0 I.kIn M.cl.ex.kC (run_ex (n := 0) (ks := []) (zs := []) (ws := []) (vs := []) (us := []) (E := E0) M.cl.ex FB iC tI F1 hr b0 pass0 I .nil .nil rfl rfl (by decide)
    fun a na => ⟨_, rfl, rfl, h a _ (same_new na _) na ⟨_, _, M.cl.ex, .inl ⟨rfl, upd_same⟩⟩⟩)
end Ov

set_option Elab.async false
set_option linter.all false
set_option maxRecDepth 100000
set_option maxHeartbeats 4000000
namespace Ov
open PySem L2
structure Mks (P : Program) (w : World) (K : PySem.W.Frag) (mg : Str → Option Value) (base : Heap) (c : Ad) : Prop where
  BadText : MkE P w K mg base c.BadText 0 "BadText" "text" (spIni K c.BadText (tl 0) (nw 0) "text")
  BadLine : MkE P w K mg base c.BadLine 0 "BadLine" "number" (spIni K c.BadLine (tl 0) (nw 0) "number")
  Known : MkE P w K mg base c.Known 0 "Known" "height" (spIni K c.Known (tl 0) (nw 0) "height")
  Contradiction : MkE P w K mg base c.Contradiction 0 "Contradiction" "cycle" (spCon K c.Contradiction)
  Gap : MkE P w K mg base c.Gap 0 "Gap" "index" (spIni K c.Gap (tl 0) (nw 0) "index")
  NoPerson : MkE P w K mg base c.NoPerson 1 "NoPerson" "height" (spIni K c.NoPerson (tl 1) (nw 1) "height")
  NoPlace : MkE P w K mg base c.NoPlace 1 "NoPlace" "place" (spIni K c.NoPlace (tl 1) (nw 1) "place")
  NoNumber : MkE P w K mg base c.NoNumber 1 "NoNumber" "number" (spIni K c.NoNumber (tl 1) (nw 1) "number")
  NoOperation : MkE P w K mg base c.NoOperation 1 "NoOperation" "many" (spIni K c.NoOperation (tl 1) (nw 1) "many")
  Blocked : MkE P w K mg base c.Blocked 2 "Blocked" "pair" (spBlo K c.Blocked)
  Barred : MkE P w K mg base c.Barred 2 "Barred" "height" (spIni K c.Barred (tl 2) (nw 2) "height")
  TooMany : MkE P w K mg base c.TooMany 3 "TooMany" "many" (spIni K c.TooMany (tl 3) (nw 3) "many")
  Full : MkE P w K mg base c.Full 3 "Full" "many" (spIni K c.Full (tl 3) (nw 3) "many")
  OtherPeople : MkE0 P w K mg base c.OtherPeople 0 "OtherPeople"
theorem same_refl (H : Hp) : Same H H := fun _ _ h => h
theorem smallB {n : Nat} (h : Nat.ble n 1000 = true) : n ≤ sizeLine := small (Nat.le_of_ble_eq_true h)
theorem smallC {n : Nat} (h : Nat.ble n 1000 = true) : n < sizeLine := small1000 (Nat.le_of_ble_eq_true h)
theorem lookup_one (f : Str) (v : V) : List.lookup f [(f, v)] = some v := by simp [List.lookup]
theorem atI_ref {as : List Addr} {i : Nat} {a : Addr} (h : as[i]? = some a) : atI (as.map V.ref) (i : Int) = some (.ref a) := atI_nat (by rw [List.getElem?_map, h]; rfl)
theorem Exc.mut {K : PySem.W.Frag} {H H' : Hp} {a C p : Addr} {fs : List (Str × V)} {xs : List V} (h : Exc K H a C fs) (hp : H p = some (.lst xs)) (s : SameB p H H') : Exc K H' a C fs := by
  obtain ⟨b, m, T, h⟩ := h
  have n1 : ∀ q d, exo q C d ≠ .lst xs := fun q d z => by
    have z' : HO.ext _ = HO.lst xs := z
    cases z'
  rcases h with ⟨e, h⟩ | ⟨dx, h1, h2⟩
  · exact ⟨b, m, T, .inl ⟨e, s _ _ (fun z => by rw [z, hp] at h; exact n1 _ _ (Option.some.inj h).symm) h⟩⟩
  · refine ⟨b, m, T, .inr ⟨dx, s _ _ (fun z => by rw [z, hp] at h1; exact n1 _ _ (Option.some.inj h1).symm) h1, s _ _ (fun z => ?_) h2⟩⟩
    rw [z, hp] at h2
    have z' : HO.lst xs = HO.ext _ := Option.some.inj h2
    cases z'
structure Blt3 (mg : Str → Option Value) : Prop where
  range : mg "range" = none
  min : mg "min" = none
def valsOf (spot soul : Int) (cl pt : Addr) : List V := [.str "x", .int spot, .int soul, .ref cl, .int spot, .int soul, .int (spot - 5), .int (soul - 500), .int (spot - 1), .ref pt, .int soul, .int (301 + spot), .int 16]
def tabOf (c : Ad) (spot soul : Int) (cl pt : Addr) : List (Addr × Nat × Str × V) := [(c.BadText, 0, "text", .str "x"), (c.BadLine, 0, "number", .int spot), (c.Known, 0, "height", .int soul), (c.Contradiction, 0, "cycle", .ref cl), (c.Gap, 0, "index", .int spot), (c.NoPerson, 1, "height", .int soul), (c.NoPlace, 1, "place", .int (spot - 5)), (c.NoNumber, 1, "number", .int (soul - 500)), (c.NoOperation, 1, "many", .int (spot - 1)), (c.Blocked, 2, "pair", .ref pt), (c.Barred, 2, "height", .int soul), (c.TooMany, 3, "many", .int (301 + spot)), (c.Full, 3, "many", .int 16)]
/-- exceptions by the table -/
def Made (K : PySem.W.Frag) (c : Ad) (H : Hp) (as : List Addr) (spot soul : Int) (cl pt : Addr) : Prop := ∀ (i : Nat) (a : Addr), as[i]? = some a → ∃ C k f v, (tabOf c spot soul cl pt)[i]? = some (C, k, f, v) ∧ Exc K H a C [(f, v)]
section
variable {K : PySem.W.Frag} {c : Ad} {H H' : Hp} {as : List Addr} {spot soul : Int} {cl pt : Addr}
theorem Made.same (m : Made K c H as spot soul cl pt) (s : Same H H') : Made K c H' as spot soul cl pt := fun i a h => by
  obtain ⟨C, k, f, v, h1, h2⟩ := m i a h
  exact ⟨C, k, f, v, h1, h2.same s⟩
theorem Made.mut {p : Addr} {xs : List V} (m : Made K c H as spot soul cl pt) (hp : H p = some (.lst xs)) (s : SameB p H H') : Made K c H' as spot soul cl pt := fun i a h => by
  obtain ⟨C, k, f, v, h1, h2⟩ := m i a h
  exact ⟨C, k, f, v, h1, h2.mut hp s⟩
theorem Made.recl {cl' : Addr} (m : Made K c H as spot soul cl pt) (hl : as.length ≤ 3) : Made K c H as spot soul cl' pt := fun i a h => by
  obtain ⟨C, k, f, v, h1, h2⟩ := m i a h
  refine ⟨C, k, f, v, ?_, h2⟩
  have hi := (List.getElem?_eq_some_iff.mp h).1
  have hi3 : i < 3 := by omega
  match i, hi3 with
  | 0, _ => exact h1
  | 1, _ => exact h1
  | 2, _ => exact h1
theorem Made.nil : Made K c H [] spot soul cl pt := fun i a h => nomatch h
theorem Made.snoc {a C : Addr} {k : Nat} {f : Str} {v : V} (m : Made K c H as spot soul cl pt) (n : Nat) (hn : as.length = n) (h : (tabOf c spot soul cl pt)[n]? = some (C, k, f, v)) (x : Exc K H a C [(f, v)]) : Made K c H (as ++ [a]) spot soul cl pt := fun i b hb => by
  by_cases hi : i < as.length
  · rw [List.getElem?_append_left hi] at hb
    exact m i b hb
  · have hl := (List.getElem?_eq_some_iff.mp hb).1
    rw [List.length_append, List.length_singleton] at hl
    have e : i = as.length := by omega
    subst e
    rw [List.getElem?_append_right (Nat.le_refl _), Nat.sub_self] at hb
    cases hb
    subst hn
    exact ⟨C, k, f, v, h, x⟩
theorem Made.at {C : Addr} {k : Nat} {f : Str} {v : V} (m : Made K c H as spot soul cl pt) (hl : as.length = 13) (i : Nat) (hi : i < 13) (h : (tabOf c spot soul cl pt)[i]? = some (C, k, f, v)) : ∃ a, atI (as.map V.ref) (i : Int) = some (.ref a) ∧ Exc K H a C [(f, v)] := by
  have e : as[i]? = some as[i] := List.getElem?_eq_getElem (by omega)
  obtain ⟨C', k', f', v', h1, h2⟩ := m i _ e
  rw [h] at h1
  cases h1
  exact ⟨_, atI_ref e, h2⟩
def kinds13 : List V := [.int 0, .int 0, .int 0, .int 0, .int 0, .int 1, .int 1, .int 1, .int 1, .int 2, .int 2, .int 3, .int 3]
theorem tab_cl {mg : Str → Option Value} (T : Tb K mg c) {i : Nat} {C : Addr} {k : Nat} {f : Str} {v u : V} (h : (tabOf c spot soul cl pt)[i]? = some (C, k, f, v)) (hk : kinds13[i]? = some u) : u = .int (k : Int) ∧ Cl K C k ∧ C ∈ c.all ∧ k < 4 := by
  have hi : i < 13 := (List.getElem?_eq_some_iff.mp hk).1
  match i, hi with
  | 0, _ =>
    cases h
    cases hk
    exact ⟨rfl, T.xBadText, (by simp [Ad.all]), by decide⟩
  | 1, _ =>
    cases h
    cases hk
    exact ⟨rfl, T.xBadLine, (by simp [Ad.all]), by decide⟩
  | 2, _ =>
    cases h
    cases hk
    exact ⟨rfl, T.xKnown, (by simp [Ad.all]), by decide⟩
  | 3, _ =>
    cases h
    cases hk
    exact ⟨rfl, T.xContradiction, (by simp [Ad.all]), by decide⟩
  | 4, _ =>
    cases h
    cases hk
    exact ⟨rfl, T.xGap, (by simp [Ad.all]), by decide⟩
  | 5, _ =>
    cases h
    cases hk
    exact ⟨rfl, T.xNoPerson, (by simp [Ad.all]), by decide⟩
  | 6, _ =>
    cases h
    cases hk
    exact ⟨rfl, T.xNoPlace, (by simp [Ad.all]), by decide⟩
  | 7, _ =>
    cases h
    cases hk
    exact ⟨rfl, T.xNoNumber, (by simp [Ad.all]), by decide⟩
  | 8, _ =>
    cases h
    cases hk
    exact ⟨rfl, T.xNoOperation, (by simp [Ad.all]), by decide⟩
  | 9, _ =>
    cases h
    cases hk
    exact ⟨rfl, T.xBlocked, (by simp [Ad.all]), by decide⟩
  | 10, _ =>
    cases h
    cases hk
    exact ⟨rfl, T.xBarred, (by simp [Ad.all]), by decide⟩
  | 11, _ =>
    cases h
    cases hk
    exact ⟨rfl, T.xTooMany, (by simp [Ad.all]), by decide⟩
  | 12, _ =>
    cases h
    cases hk
    exact ⟨rfl, T.xFull, (by simp [Ad.all]), by decide⟩
/-- each of them is of its kind -/
theorem Made.each {mg : Str → Option Value} (T : Tb K mg c) (m : Made K c H as spot soul cl pt) {i : Nat} {u v : V} (hu : (as.map V.ref)[i]? = some u) (hv : kinds13[i]? = some v) :
    ∃ (a C : Addr) (fs : List (Str × V)) (k : Nat), u = .ref a ∧ v = .int (k : Int) ∧ Exc K H a C fs ∧ Cl K C k ∧ C ∈ c.all ∧ k < 4 := by
  rw [List.getElem?_map] at hu
  obtain ⟨a, ha, rfl⟩ := Option.map_eq_some_iff.mp hu
  obtain ⟨C, k, f, w, h1, h2⟩ := m i a ha
  obtain ⟨e, h3, h4, h5⟩ := tab_cl T h1 hv
  exact ⟨a, C, _, k, rfl, e, h2, h3, h4, h5⟩
structure VF (H : Hp) (pV pl pt : Addr) (spot soul : Int) : Prop where
  hV : H pV = some (.lst (valsOf spot soul pl pt))
  hl : H pl = some (.lst [.int 0, .int 1])
  ht : H pt = some (.tup [.int 0, .int spot])
theorem VF.same {pV pl : Addr} (v : VF H pV pl pt spot soul) (s : Same H H') : VF H' pV pl pt spot soul := ⟨s _ _ v.hV, s _ _ v.hl, s _ _ v.ht⟩
/-- the fields beside the values -/
theorem flds_same {pF pV pl : Addr} (hF : H pF = some (.lst (valsOf spot soul cl pt))) (hc : H cl = some (.lst [.int 0, .int 1])) (v : VF H pV pl pt spot soul) : Sm K 3 H (.ref pF) (.ref pV) := by
  refine .inr ⟨pF, pV, _, _, rfl, rfl, .inl ⟨SqL.of hF, SqL.of v.hV⟩, rfl, by show 13 ≤ 1000; decide, fun i x y hx hy => ?_⟩
  have hi : i < 13 := (List.getElem?_eq_some_iff.mp hx).1
  match i, hi with
  | 0, _ =>
    cases hx
    cases hy
    exact .inl ⟨rfl, rfl⟩
  | 1, _ =>
    cases hx
    cases hy
    exact .inl ⟨rfl, rfl⟩
  | 2, _ =>
    cases hx
    cases hy
    exact .inl ⟨rfl, rfl⟩
  | 3, _ =>
    cases hx
    cases hy
    refine .inr ⟨cl, pl, _, _, rfl, rfl, .inl ⟨SqL.of hc, SqL.of v.hl⟩, rfl, by decide, fun j x y hx hy => ?_⟩
    rw [hx] at hy
    cases hy
    have hj : j < 2 := (List.getElem?_eq_some_iff.mp hx).1
    match j, hj with
    | 0, _ =>
      cases hx
      exact .inl ⟨rfl, rfl⟩
    | 1, _ =>
      cases hx
      exact .inl ⟨rfl, rfl⟩
  | 4, _ =>
    cases hx
    cases hy
    exact .inl ⟨rfl, rfl⟩
  | 5, _ =>
    cases hx
    cases hy
    exact .inl ⟨rfl, rfl⟩
  | 6, _ =>
    cases hx
    cases hy
    exact .inl ⟨rfl, rfl⟩
  | 7, _ =>
    cases hx
    cases hy
    exact .inl ⟨rfl, rfl⟩
  | 8, _ =>
    cases hx
    cases hy
    exact .inl ⟨rfl, rfl⟩
  | 9, _ =>
    cases hx
    cases hy
    refine .inr ⟨pt, pt, _, _, rfl, rfl, .inr ⟨SqT.of v.ht, SqT.of v.ht⟩, rfl, by show 2 ≤ 1000; decide, fun j x y hx hy => ?_⟩
    rw [hx] at hy
    cases hy
    have hj : j < 2 := (List.getElem?_eq_some_iff.mp hx).1
    match j, hj with
    | 0, _ =>
      cases hx
      exact .inl ⟨rfl, rfl⟩
    | 1, _ =>
      cases hx
      exact .inl ⟨rfl, rfl⟩
  | 10, _ =>
    cases hx
    cases hy
    exact .inl ⟨rfl, rfl⟩
  | 11, _ =>
    cases hx
    cases hy
    exact .inl ⟨rfl, rfl⟩
  | 12, _ =>
    cases hx
    cases hy
    exact .inl ⟨rfl, rfl⟩
end
abbrev sRight : Stmt := top 24
def spRight (n : Int) : Sp := fun vs H Q _ => ∃ (p : Addr) (b : Int), vs = [.ref p] ∧ Bx H p b ∧ b ≤ n ∧ n ≤ 2 ^ 40 ∧ ∀ H', SameB p H H' → Bx H' p (b + 3) → Q (.bl true) H'
/-- the slots -/
def sg (pb : Addr) (soul spot : Int) (v m n s f k : Option V) : L2.St := [some (.ref pb), some (.int soul), some (.int spot), v, m, n, s, f, k, none, none]
section
variable {P : Program} {w : World} {K : PySem.W.Frag} {mg : Str → Option Value} {base : Heap} {f gT gS gO : Addr} {fd dT dS dO : FuncData} {c : Ad}
theorem scRight : FnScope ["_law_box_here", "_law_soul", "_law_spot", "_law_values", "_law_made", "_law_named", "_law_some", "_law_fields", "_law_kinds", "_law_its", "_law_at"] ["_law_box_here"] (defScope sRight) := ⟨rfl, rfl, rfl, by decide +kernel, rfl, by decide +kernel, by decide +kernel⟩
theorem ok_right (F : Fun K "_law_right" "_law_right" sRight f fd) (GT : FnOk P w K mg base CX0 2 gT dT ["_law_box_here", "_law_below"] (spTake 2)) (bT : Binds K dT ["_law_box_here", "_law_below"] []) (kT : PySem.W.keepIn K (.ref gT) = true) (mT : mg "_law_take" = some (.ref gT))
    (GS : FnOk P w K mg base CX0 3 gS dS pSame (spSame K 3)) (bS : Binds K dS pSame []) (kS : PySem.W.keepIn K (.ref gS) = true) (mS : mg "_law_same" = some (.ref gS))
    (GO : FnOk P w K mg base CX0 2 gO dO ["_law_made", "_law_at"] (spOne K c)) (bO : Binds K dO ["_law_made", "_law_at"] []) (kO : PySem.W.keepIn K (.ref gO) = true) (mO : mg "_law_one_right" = some (.ref gO))
    (B : Blt mg) (T : Tb K mg c) (M : Mks P w K mg base c) {t1 t2 : Tok} (m1 : mg "MOST" = some (.int 300 t1)) (m2 : mg "MOST_SEARCHED" = some (.int 2000 t2)) (n : Int) :
    FnOk P w K mg base CX0 4 f fd ["_law_box_here"] (spRight n) := by
  refine F.ok scRight (fun vs H Q E h => ?_) (fun cdv A outer s H vs Q E hr h => ?_)
  · obtain ⟨p, b, rfl, _⟩ := h
    rfl
  obtain ⟨pb, b, rfl, hb, hb1, hb2, hQ⟩ := h
  have hr2 : Room 2 _ := hr.mono (by decide)
  refine ⟨_, (Evl.pss_cut (ps_par (i := 1) (j := 2) rfl scRight.nd rfl rfl (by decide) rfl rfl (pa_cons (pe_op op_add pe_int (pe_call GT hr2 rfl mT kT bT .nil pass0 (pa_cons (pv 0) (pa_cons (pe_op op_pow pe_int pe_int) pa_nil)))) (pa_cons (pe_call GT hr2 rfl mT kT bT .nil pass0 (pa_cons (pv 0) (pa_cons pe_int pa_nil))) pa_nil)) rfl)
    (Evl.pss_cut (ps_set (i := 3) scRight.nd rfl (Or.inl rfl) (pe_lst (pa_cons pe_str (pa_cons (pv 2) (pa_cons (pv 1) (pa_cons (pe_lst (pa_cons pe_int (pa_cons pe_int pa_nil))) (pa_cons (pv 2) (pa_cons (pv 1) (pa_cons (pe_op op_sub (pv 2) pe_int) (pa_cons (pe_op op_sub (pv 1) pe_int) (pa_cons (pe_op op_sub (pv 2) pe_int) (pa_cons (pe_tup (pa_cons pe_int (pa_cons (pv 2) pa_nil))) (pa_cons (pv 1) (pa_cons (pe_op op_add pe_int (pv 2)) (pa_cons pe_int pa_nil)))))))))))))))
    (Evl.pss_cut (ps_set (i := 4) scRight.nd rfl (Or.inl rfl) (pe_lst (pa_cons (pe_new (R := rPlain K c.BadText "text") M.BadText (serves_plain M.BadText.cl M.BadText.no) hr2 rfl (pa_cons (pe_ix ix_list (pv 3) pe_int (fun _ _ => rfl)) pa_nil)) (pa_cons (pe_new (R := rPlain K c.BadLine "number") M.BadLine (serves_plain M.BadLine.cl M.BadLine.no) hr2 rfl (pa_cons (pe_ix ix_list (pv 3) pe_int (fun _ _ => rfl)) pa_nil)) (pa_cons (pe_new (R := rPlain K c.Known "height") M.Known (serves_plain M.Known.cl M.Known.no) hr2 rfl (pa_cons (pe_ix ix_list (pv 3) pe_int (fun _ _ => rfl)) pa_nil)) (pa_cons (pe_new (R := rList K c.Contradiction) M.Contradiction (serves_list M.Contradiction.cl M.Contradiction.no) hr2 rfl (pa_cons (pe_ix ix_list (pv 3) pe_int (fun _ _ => rfl)) pa_nil)) (pa_cons (pe_new (R := rPlain K c.Gap "index") M.Gap (serves_plain M.Gap.cl M.Gap.no) hr2 rfl (pa_cons (pe_ix ix_list (pv 3) pe_int (fun _ _ => rfl)) pa_nil)) pa_nil)))))))
    (Evl.pss_cut (ps_set (i := 4) scRight.nd rfl (Or.inl rfl) (pe_op op_cat (pv 4) (pe_lst (pa_cons (pe_new (R := rPlain K c.NoPerson "height") M.NoPerson (serves_plain M.NoPerson.cl M.NoPerson.no) hr2 rfl (pa_cons (pe_ix ix_list (pv 3) pe_int (fun _ _ => rfl)) pa_nil)) (pa_cons (pe_new (R := rPlain K c.NoPlace "place") M.NoPlace (serves_plain M.NoPlace.cl M.NoPlace.no) hr2 rfl (pa_cons (pe_ix ix_list (pv 3) pe_int (fun _ _ => rfl)) pa_nil)) (pa_cons (pe_new (R := rPlain K c.NoNumber "number") M.NoNumber (serves_plain M.NoNumber.cl M.NoNumber.no) hr2 rfl (pa_cons (pe_ix ix_list (pv 3) pe_int (fun _ _ => rfl)) pa_nil)) (pa_cons (pe_new (R := rPlain K c.NoOperation "many") M.NoOperation (serves_plain M.NoOperation.cl M.NoOperation.no) hr2 rfl (pa_cons (pe_ix ix_list (pv 3) pe_int (fun _ _ => rfl)) pa_nil)) pa_nil)))))))
    (Evl.pss_cut (ps_set (i := 4) scRight.nd rfl (Or.inl rfl) (pe_op op_cat (pv 4) (pe_lst (pa_cons (pe_new (R := rTup K c.Blocked) M.Blocked (serves_tup M.Blocked.cl M.Blocked.no) hr2 rfl (pa_cons (pe_ix ix_list (pv 3) pe_int (fun _ _ => rfl)) pa_nil)) (pa_cons (pe_new (R := rPlain K c.Barred "height") M.Barred (serves_plain M.Barred.cl M.Barred.no) hr2 rfl (pa_cons (pe_ix ix_list (pv 3) pe_int (fun _ _ => rfl)) pa_nil)) (pa_cons (pe_new (R := rPlain K c.TooMany "many") M.TooMany (serves_plain M.TooMany.cl M.TooMany.no) hr2 rfl (pa_cons (pe_ix ix_list (pv 3) pe_int (fun _ _ => rfl)) pa_nil)) (pa_cons (pe_new (R := rPlain K c.Full "many") M.Full (serves_plain M.Full.cl M.Full.no) hr2 rfl (pa_cons (pe_ix ix_list (pv 3) pe_int (fun _ _ => rfl)) pa_nil)) pa_nil)))))))
    (Evl.pss_cut (ps_set (i := 5) scRight.nd rfl (Or.inl rfl) (pe_lst (pa_cons (pe_newK (R := rPlain K c.BadText "text") M.BadText (serves_plain M.BadText.cl M.BadText.no) hr2 rfl (pe_ix ix_list (pv 3) pe_int (fun _ _ => rfl))) (pa_cons (pe_newK (R := rPlain K c.BadLine "number") M.BadLine (serves_plain M.BadLine.cl M.BadLine.no) hr2 rfl (pe_ix ix_list (pv 3) pe_int (fun _ _ => rfl))) (pa_cons (pe_newK (R := rPlain K c.Known "height") M.Known (serves_plain M.Known.cl M.Known.no) hr2 rfl (pe_ix ix_list (pv 3) pe_int (fun _ _ => rfl))) pa_nil)))))
    (Evl.pss_cut (ps_set (i := 5) scRight.nd rfl (Or.inl rfl) (pe_op op_cat (pv 5) (pe_lst (pa_cons (pe_newK (R := rList K c.Contradiction) M.Contradiction (serves_list M.Contradiction.cl M.Contradiction.no) hr2 rfl (pe_ix ix_list (pv 3) pe_int (fun _ _ => rfl))) (pa_cons (pe_newK (R := rPlain K c.Gap "index") M.Gap (serves_plain M.Gap.cl M.Gap.no) hr2 rfl (pe_ix ix_list (pv 3) pe_int (fun _ _ => rfl))) (pa_cons (pe_newK (R := rPlain K c.NoPerson "height") M.NoPerson (serves_plain M.NoPerson.cl M.NoPerson.no) hr2 rfl (pe_ix ix_list (pv 3) pe_int (fun _ _ => rfl))) pa_nil))))))
    (Evl.pss_cut (ps_set (i := 5) scRight.nd rfl (Or.inl rfl) (pe_op op_cat (pv 5) (pe_lst (pa_cons (pe_newK (R := rPlain K c.NoPlace "place") M.NoPlace (serves_plain M.NoPlace.cl M.NoPlace.no) hr2 rfl (pe_ix ix_list (pv 3) pe_int (fun _ _ => rfl))) (pa_cons (pe_newK (R := rPlain K c.NoNumber "number") M.NoNumber (serves_plain M.NoNumber.cl M.NoNumber.no) hr2 rfl (pe_ix ix_list (pv 3) pe_int (fun _ _ => rfl))) (pa_cons (pe_newK (R := rPlain K c.NoOperation "many") M.NoOperation (serves_plain M.NoOperation.cl M.NoOperation.no) hr2 rfl (pe_ix ix_list (pv 3) pe_int (fun _ _ => rfl))) pa_nil))))))
    (Evl.pss_cut (ps_set (i := 5) scRight.nd rfl (Or.inl rfl) (pe_op op_cat (pv 5) (pe_lst (pa_cons (pe_newK (R := rTup K c.Blocked) M.Blocked (serves_tup M.Blocked.cl M.Blocked.no) hr2 rfl (pe_ix ix_list (pv 3) pe_int (fun _ _ => rfl))) (pa_cons (pe_newK (R := rPlain K c.Barred "height") M.Barred (serves_plain M.Barred.cl M.Barred.no) hr2 rfl (pe_ix ix_list (pv 3) pe_int (fun _ _ => rfl))) (pa_cons (pe_newK (R := rPlain K c.TooMany "many") M.TooMany (serves_plain M.TooMany.cl M.TooMany.no) hr2 rfl (pe_ix ix_list (pv 3) pe_int (fun _ _ => rfl))) pa_nil))))))
    (Evl.pss_cut (ps_expr (pe_bm PySem.F.plainAttrs_list PySem.F.slot_list_append PySem.F.type_list_append mt_append (pv 5) (pa_cons (pe_newK (R := rPlain K c.Full "many") M.Full (serves_plain M.Full.cl M.Full.no) hr2 rfl (pe_ix ix_list (pv 3) pe_int (fun _ _ => rfl))) pa_nil)))
    (Evl.pss_cut (ps_for PassesOwn.never rfl (pi_tup (pe_tup (pa_cons (pv 4) (pa_cons (pv 5) pa_nil)))) (pg_name (i := 6) scRight.nd rfl (Or.inl rfl))
      (Evl.pss_cut (ps_set (i := 7) scRight.nd rfl (Or.inl rfl) (pe_lst (pa_cons (pe_exf (pe_ix ix_list (pv 6) pe_int (fun _ _ => rfl))) (pa_cons (pe_exf (pe_ix ix_list (pv 6) pe_int (fun _ _ => rfl))) (pa_cons (pe_exf (pe_ix ix_list (pv 6) pe_int (fun _ _ => rfl))) (pa_cons (pe_exf (pe_ix ix_list (pv 6) pe_int (fun _ _ => rfl))) (pa_cons (pe_exf (pe_ix ix_list (pv 6) pe_int (fun _ _ => rfl))) (pa_cons (pe_exf (pe_ix ix_list (pv 6) pe_int (fun _ _ => rfl))) pa_nil))))))))
      (Evl.pss_cut (ps_set (i := 7) scRight.nd rfl (Or.inl rfl) (pe_op op_cat (pv 7) (pe_lst (pa_cons (pe_exf (pe_ix ix_list (pv 6) pe_int (fun _ _ => rfl))) (pa_cons (pe_exf (pe_ix ix_list (pv 6) pe_int (fun _ _ => rfl))) (pa_cons (pe_exf (pe_ix ix_list (pv 6) pe_int (fun _ _ => rfl))) (pa_cons (pe_exf (pe_ix ix_list (pv 6) pe_int (fun _ _ => rfl))) (pa_cons (pe_exf (pe_ix ix_list (pv 6) pe_int (fun _ _ => rfl))) pa_nil))))))))
      (Evl.pss_cut (ps_if (pt_not (pt_val (pe_call GS hr rfl mS kS bS .nil pass0 (pa_cons (pe_op op_cat (pv 7) (pe_lst (pa_cons (pe_exf (pe_ix ix_list (pv 6) pe_int (fun _ _ => rfl))) (pa_cons (pe_exf (pe_ix ix_list (pv 6) pe_int (fun _ _ => rfl))) pa_nil)))) (pa_cons (pv 3) pa_nil))))) (pss_one (ps_ret pe_bl)) pss_nil)
      (Evl.pss_cut (ps_set (i := 8) scRight.nd rfl (Or.inl rfl) (pe_op op_cat (pe_op op_cat (pe_op op_cat (pe_op op_rep (pe_lst (pa_cons pe_int pa_nil)) pe_int) (pe_op op_rep (pe_lst (pa_cons pe_int pa_nil)) pe_int)) (pe_op op_rep (pe_lst (pa_cons pe_int pa_nil)) pe_int)) (pe_op op_rep (pe_lst (pa_cons pe_int pa_nil)) pe_int)))
      (pss_one (ps_if (pt_not (pt_val (pe_callB (cr_all rfl) rfl B.all (by decide +kernel) (pa_cons (pe_lc (own := [("_law_its", 9), ("_law_at", 10)]) (g := gTup K 2 (gCons (gName 9) (gCons (gName 10) gNil))) rfl scRight.nd (pi_zip rfl B.zip (pa_cons (pv 6) (pa_cons (pv 8) pa_nil))) (blkOk_by (own := [("_law_its", 9), ("_law_at", 10)]) (N := ["_law_box_here", "_law_soul", "_law_spot", "_law_values", "_law_made", "_law_named", "_law_some", "_law_fields", "_law_kinds", "_law_its", "_law_at"]) (sc := defScope sRight) (by decide +kernel)) (fun _ _ _ _ _ => by exact pg_tup rfl (pgs_cons (pg_name (i := 9) scRight.nd rfl (Or.inl rfl)) (pgs_cons (pg_name (i := 10) scRight.nd rfl (Or.inl rfl)) pgs_nil))) (fun _ _ _ _ _ => pts_nil) (fun _ _ _ _ _ => (pe_call GO hr2 rfl mO kO bO .nil pass0 (pa_cons (pv 9) (pa_cons (pv 10) pa_nil))))) pa_nil)))) (pss_one (ps_ret pe_bl)) pss_nil)))))))
    (pss_one (ps_ret (pe_and (pe_call GO hr2 rfl mO kO bO .nil pass0 (pa_cons (pe_new0 M.OtherPeople hr2 rfl) (pa_cons pe_int pa_nil))) (pe_one (pe_cmpR (op_eqD hr.units) (pe_lst (pa_cons (pe_glob (v := .int 300) rfl m1 ⟨_, rfl⟩) (pa_cons (pe_glob (v := .int 2000) rfl m2 ⟨_, rfl⟩) pa_nil))) (pe_lst (pa_cons pe_int (pa_cons pe_int pa_nil))) (nomark _))))))))))))))))), ?_⟩
  refine ⟨fun σ H' => ∃ soul spot : Int, σ = sg pb soul spot none none none none none none ∧ SameB pb H H' ∧ Bx H' pb (b + 3), ?_, ?_⟩
  · refine ⟨_, rfl, _, _, rfl, rfl, ⟨by decide, by decide, by decide⟩, pb, _, b, 2, rfl, hb, by omega, by decide, by decide, by decide, .inr ⟨by decide, by omega, rfl⟩, fun soul0 H1 v0 v1 s1 x1 => ?_⟩
    refine ⟨_, _, rfl, rfl, _, rfl, pb, 30, b + 2, 1, rfl, x1, by omega, by decide, by decide, by decide, .inl ⟨by decide, rfl⟩, fun spot H2 w0 w1 s2 x2 => ?_⟩
    exact ⟨_, _, rfl, _, _, rfl, s1.trans s2, x2.mono (by omega)⟩
  rintro σ H0 ⟨soul, spot, rfl, sB, hB⟩
  clear hb
  refine ⟨fun σ H' => ∃ pV pl pt, σ = sg pb soul spot (some (.ref pV)) none none none none none ∧ Same H0 H' ∧ VF H' pV pl pt spot soul, ?_, ?_⟩
  · refine ⟨_, rfl, _, rfl, smallB rfl, fun pl hpl => ?_⟩
    generalize eNew : upd _ pl _ = H3
    obtain ⟨s3, u3⟩ := fresh_of eNew hpl
    clear eNew
    refine ⟨_, rfl, _, rfl, _, rfl, _, _, rfl, rfl, _, rfl, _, _, rfl, rfl, _, rfl, _, _, rfl, rfl, _, rfl, smallB rfl, fun pt hpt => ?_⟩
    generalize eNew : upd _ pt _ = H4
    obtain ⟨s4, u4⟩ := fresh_of eNew hpt
    clear eNew
    refine ⟨_, rfl, _, rfl, _, _, rfl, rfl, smallB rfl, fun pV hpV => ?_⟩
    generalize eNew : upd _ pV _ = H5
    obtain ⟨s5, u5⟩ := fresh_of eNew hpV
    clear eNew
    exact ⟨pV, pl, pt, rfl, (s3.trans s4).trans s5, u5, s5 _ _ (s4 _ _ u3), s5 _ _ u4⟩
  rintro σ H1 ⟨pV, pl, pt, rfl, s1, v1⟩
  refine ⟨fun σ H' => ∃ (p cl : Addr) (as : List Addr), σ = sg pb soul spot (some (.ref pV)) (some (.ref p)) none none none none ∧ H1 p = none ∧ Same H1 H' ∧ VF H' pV pl pt spot soul ∧ as.length = 5 ∧ H' p = some (.lst (as.map V.ref)) ∧ Made K c H' as spot soul cl pt ∧ H' cl = some (.lst [.int 0, .int 1]), ?_, ?_⟩
  · refine ⟨_, rfl, pV, _, _, _, rfl, rfl, SqL.of (v1).hV, atI_nat (j := 0) rfl, _, rfl, fun a0 H101 s101 n101 x101 => ?_⟩
    have v_s101 := (v1).same s101
    have w_s101 := ((same_refl H1)).trans s101
    refine ⟨_, rfl, pV, _, _, _, rfl, rfl, SqL.of (v_s101).hV, atI_nat (j := 1) rfl, _, rfl, fun a1 H102 s102 n102 x102 => ?_⟩
    have v_s102 := (v_s101).same s102
    have w_s102 := (w_s101).trans s102
    have x0_s102 := (x101).same s102
    refine ⟨_, rfl, pV, _, _, _, rfl, rfl, SqL.of (v_s102).hV, atI_nat (j := 2) rfl, _, rfl, fun a2 H103 s103 n103 x103 => ?_⟩
    have v_s103 := (v_s102).same s103
    have w_s103 := (w_s102).trans s103
    have x0_s103 := (x0_s102).same s103
    have x1_s103 := (x102).same s103
    refine ⟨_, rfl, pV, _, _, _, rfl, rfl, SqL.of (v_s103).hV, atI_nat (j := 3) rfl, _, rfl, pl, _, rfl, SqL.of (v_s103).hl, fun a3 cl H104 s104 n104 nl104 uc104 x104 => ?_⟩
    have v_s104 := (v_s103).same s104
    have w_s104 := (w_s103).trans s104
    have x0_s104 := (x0_s103).same s104
    have x1_s104 := (x1_s103).same s104
    have x2_s104 := (x103).same s104
    refine ⟨_, rfl, pV, _, _, _, rfl, rfl, SqL.of (v_s104).hV, atI_nat (j := 4) rfl, _, rfl, fun a4 H105 s105 n105 x105 => ?_⟩
    have v_s105 := (v_s104).same s105
    have w_s105 := (w_s104).trans s105
    have x0_s105 := (x0_s104).same s105
    have x1_s105 := (x1_s104).same s105
    have x2_s105 := (x2_s104).same s105
    have c_s105 := s105 _ _ uc104
    have x3_s105 := (x104).same s105
    refine ⟨smallB rfl, fun p hp => ?_⟩
    have fp := back_none w_s105 hp
    generalize eNew : upd _ p _ = H106
    obtain ⟨s106, u106⟩ := fresh_of eNew hp
    clear eNew
    have v_s106 := (v_s105).same s106
    have w_s106 := (w_s105).trans s106
    have x0_s106 := (x0_s105).same s106
    have x1_s106 := (x1_s105).same s106
    have x2_s106 := (x2_s105).same s106
    have c_s106 := s106 _ _ c_s105
    have x3_s106 := (x3_s105).same s106
    have x4_s106 := (x105).same s106
    exact ⟨p, cl, [a0, a1, a2, a3, a4], rfl, fp, w_s106, v_s106, rfl, u106, (((((Made.nil).snoc 0 rfl rfl x0_s106).snoc 1 rfl rfl x1_s106).snoc 2 rfl rfl x2_s106).snoc 3 rfl rfl x3_s106).snoc 4 rfl rfl x4_s106, c_s106⟩
  rintro σ H2 ⟨pp, cl, as, rfl, f2, s2, v2, hlen, l2, M2, c2⟩
  refine ⟨fun σ H' => ∃ (p cl : Addr) (as : List Addr), σ = sg pb soul spot (some (.ref pV)) (some (.ref p)) none none none none ∧ H2 p = none ∧ Same H2 H' ∧ VF H' pV pl pt spot soul ∧ as.length = 9 ∧ H' p = some (.lst (as.map V.ref)) ∧ Made K c H' as spot soul cl pt ∧ H' cl = some (.lst [.int 0, .int 1]), ?_, ?_⟩
  · refine ⟨_, rfl, ?_⟩
    refine ⟨_, rfl, pV, _, _, _, rfl, rfl, SqL.of (v2).hV, atI_nat (j := 5) rfl, _, rfl, fun a5 H107 s107 n107 x107 => ?_⟩
    have v_s107 := (v2).same s107
    have w_s107 := ((same_refl H2)).trans s107
    have l_s107 := s107 _ _ l2
    have M_s107 := (M2).same s107
    have c_s107 := s107 _ _ c2
    refine ⟨_, rfl, pV, _, _, _, rfl, rfl, SqL.of (v_s107).hV, atI_nat (j := 6) rfl, _, rfl, fun a6 H108 s108 n108 x108 => ?_⟩
    have v_s108 := (v_s107).same s108
    have w_s108 := (w_s107).trans s108
    have l_s108 := s108 _ _ l_s107
    have M_s108 := (M_s107).same s108
    have c_s108 := s108 _ _ c_s107
    have x5_s108 := (x107).same s108
    refine ⟨_, rfl, pV, _, _, _, rfl, rfl, SqL.of (v_s108).hV, atI_nat (j := 7) rfl, _, rfl, fun a7 H109 s109 n109 x109 => ?_⟩
    have v_s109 := (v_s108).same s109
    have w_s109 := (w_s108).trans s109
    have l_s109 := s109 _ _ l_s108
    have M_s109 := (M_s108).same s109
    have c_s109 := s109 _ _ c_s108
    have x5_s109 := (x5_s108).same s109
    have x6_s109 := (x108).same s109
    refine ⟨_, rfl, pV, _, _, _, rfl, rfl, SqL.of (v_s109).hV, atI_nat (j := 8) rfl, _, rfl, fun a8 H110 s110 n110 x110 => ?_⟩
    have v_s110 := (v_s109).same s110
    have w_s110 := (w_s109).trans s110
    have l_s110 := s110 _ _ l_s109
    have M_s110 := (M_s109).same s110
    have c_s110 := s110 _ _ c_s109
    have x5_s110 := (x5_s109).same s110
    have x6_s110 := (x6_s109).same s110
    have x7_s110 := (x109).same s110
    refine ⟨smallB rfl, fun l hl => ?_⟩
    generalize eNew : upd _ l _ = H111
    obtain ⟨s111, u111⟩ := fresh_of eNew hl
    clear eNew
    have v_s111 := (v_s110).same s111
    have w_s111 := (w_s110).trans s111
    have l_s111 := s111 _ _ l_s110
    have M_s111 := (M_s110).same s111
    have c_s111 := s111 _ _ c_s110
    have x5_s111 := (x5_s110).same s111
    have x6_s111 := (x6_s110).same s111
    have x7_s111 := (x7_s110).same s111
    have x8_s111 := (x110).same s111
    refine ⟨pp, l, _, _, rfl, rfl, l_s111, u111, (by rw [List.length_map, hlen]; exact smallB rfl), fun p hp => ?_⟩
    have fp := back_none w_s111 hp
    generalize eNew : upd _ p _ = H112
    obtain ⟨s112, u112⟩ := fresh_of eNew hp
    clear eNew
    have v_s112 := (v_s111).same s112
    have w_s112 := (w_s111).trans s112
    have l_s112 := s112 _ _ l_s111
    have M_s112 := (M_s111).same s112
    have c_s112 := s112 _ _ c_s111
    have x5_s112 := (x5_s111).same s112
    have x6_s112 := (x6_s111).same s112
    have x7_s112 := (x7_s111).same s112
    have x8_s112 := (x8_s111).same s112
    have u9 : _ = some (HO.lst ((as ++ [a5] ++ [a6] ++ [a7] ++ [a8]).map V.ref)) := u112.trans (by simp)
    exact ⟨p, cl, as ++ [a5] ++ [a6] ++ [a7] ++ [a8], rfl, fp, w_s112, v_s112, (by simp [hlen]), u9, ((((M_s112).snoc 5 (by simp [hlen]) rfl x5_s112).snoc 6 (by simp [hlen]) rfl x6_s112).snoc 7 (by simp [hlen]) rfl x7_s112).snoc 8 (by simp [hlen]) rfl x8_s112, c_s112⟩
  clear hlen
  rintro σ H3 ⟨pp, cl, as, rfl, f3, s3, v3, hlen, l3, M3, c3⟩
  refine ⟨fun σ H' => ∃ (p cl : Addr) (as : List Addr), σ = sg pb soul spot (some (.ref pV)) (some (.ref p)) none none none none ∧ H3 p = none ∧ Same H3 H' ∧ VF H' pV pl pt spot soul ∧ as.length = 13 ∧ H' p = some (.lst (as.map V.ref)) ∧ Made K c H' as spot soul cl pt ∧ H' cl = some (.lst [.int 0, .int 1]), ?_, ?_⟩
  · refine ⟨_, rfl, ?_⟩
    refine ⟨_, rfl, pV, _, _, _, rfl, rfl, SqL.of (v3).hV, atI_nat (j := 9) rfl, _, rfl, pt, _, rfl, SqT.of (v3).ht, fun a9 H113 s113 n113 x113 => ?_⟩
    have v_s113 := (v3).same s113
    have w_s113 := ((same_refl H3)).trans s113
    have l_s113 := s113 _ _ l3
    have M_s113 := (M3).same s113
    have c_s113 := s113 _ _ c3
    refine ⟨_, rfl, pV, _, _, _, rfl, rfl, SqL.of (v_s113).hV, atI_nat (j := 10) rfl, _, rfl, fun a10 H114 s114 n114 x114 => ?_⟩
    have v_s114 := (v_s113).same s114
    have w_s114 := (w_s113).trans s114
    have l_s114 := s114 _ _ l_s113
    have M_s114 := (M_s113).same s114
    have c_s114 := s114 _ _ c_s113
    have x9_s114 := (x113).same s114
    refine ⟨_, rfl, pV, _, _, _, rfl, rfl, SqL.of (v_s114).hV, atI_nat (j := 11) rfl, _, rfl, fun a11 H115 s115 n115 x115 => ?_⟩
    have v_s115 := (v_s114).same s115
    have w_s115 := (w_s114).trans s115
    have l_s115 := s115 _ _ l_s114
    have M_s115 := (M_s114).same s115
    have c_s115 := s115 _ _ c_s114
    have x9_s115 := (x9_s114).same s115
    have x10_s115 := (x114).same s115
    refine ⟨_, rfl, pV, _, _, _, rfl, rfl, SqL.of (v_s115).hV, atI_nat (j := 12) rfl, _, rfl, fun a12 H116 s116 n116 x116 => ?_⟩
    have v_s116 := (v_s115).same s116
    have w_s116 := (w_s115).trans s116
    have l_s116 := s116 _ _ l_s115
    have M_s116 := (M_s115).same s116
    have c_s116 := s116 _ _ c_s115
    have x9_s116 := (x9_s115).same s116
    have x10_s116 := (x10_s115).same s116
    have x11_s116 := (x115).same s116
    refine ⟨smallB rfl, fun l hl => ?_⟩
    generalize eNew : upd _ l _ = H117
    obtain ⟨s117, u117⟩ := fresh_of eNew hl
    clear eNew
    have v_s117 := (v_s116).same s117
    have w_s117 := (w_s116).trans s117
    have l_s117 := s117 _ _ l_s116
    have M_s117 := (M_s116).same s117
    have c_s117 := s117 _ _ c_s116
    have x9_s117 := (x9_s116).same s117
    have x10_s117 := (x10_s116).same s117
    have x11_s117 := (x11_s116).same s117
    have x12_s117 := (x116).same s117
    refine ⟨pp, l, _, _, rfl, rfl, l_s117, u117, (by rw [List.length_map, hlen]; exact smallB rfl), fun p hp => ?_⟩
    have fp := back_none w_s117 hp
    generalize eNew : upd _ p _ = H118
    obtain ⟨s118, u118⟩ := fresh_of eNew hp
    clear eNew
    have v_s118 := (v_s117).same s118
    have w_s118 := (w_s117).trans s118
    have l_s118 := s118 _ _ l_s117
    have M_s118 := (M_s117).same s118
    have c_s118 := s118 _ _ c_s117
    have x9_s118 := (x9_s117).same s118
    have x10_s118 := (x10_s117).same s118
    have x11_s118 := (x11_s117).same s118
    have x12_s118 := (x12_s117).same s118
    have u9 : _ = some (HO.lst ((as ++ [a9] ++ [a10] ++ [a11] ++ [a12]).map V.ref)) := u118.trans (by simp)
    exact ⟨p, cl, as ++ [a9] ++ [a10] ++ [a11] ++ [a12], rfl, fp, w_s118, v_s118, (by simp [hlen]), u9, ((((M_s118).snoc 9 (by simp [hlen]) rfl x9_s118).snoc 10 (by simp [hlen]) rfl x10_s118).snoc 11 (by simp [hlen]) rfl x11_s118).snoc 12 (by simp [hlen]) rfl x12_s118, c_s118⟩
  clear hlen
  rintro σ H4 ⟨pp, cl, as, rfl, f4, s4, v4, hlen, l4, M4, c4⟩
  have oL4 := l4
  have oM4 := M4
  have oC4 := c4
  generalize pp = pM at *
  generalize cl = cM at *
  generalize as = aM at *
  have hM := hlen
  clear hlen
  refine ⟨fun σ H' => ∃ (p cl : Addr) (as : List Addr), σ = sg pb soul spot (some (.ref pV)) (some (.ref pM)) (some (.ref p)) none none none ∧ H4 p = none ∧ Same H4 H' ∧ VF H' pV pl pt spot soul ∧ as.length = 3 ∧ H' p = some (.lst (as.map V.ref)) ∧ Made K c H' as spot soul cl pt ∧ H' pM = some (.lst (aM.map V.ref)) ∧ Made K c H' aM spot soul cM pt ∧ H' cM = some (.lst [.int 0, .int 1]), ?_, ?_⟩
  · refine ⟨_, rfl, pV, _, _, _, rfl, rfl, SqL.of (v4).hV, atI_nat (j := 0) rfl, _, rfl, fun a0 H119 s119 n119 x119 => ?_⟩
    have v_s119 := (v4).same s119
    have w_s119 := ((same_refl H4)).trans s119
    have oL_s119 := s119 _ _ oL4
    have oM_s119 := (oM4).same s119
    have oC_s119 := s119 _ _ oC4
    refine ⟨_, rfl, pV, _, _, _, rfl, rfl, SqL.of (v_s119).hV, atI_nat (j := 1) rfl, _, rfl, fun a1 H120 s120 n120 x120 => ?_⟩
    have v_s120 := (v_s119).same s120
    have w_s120 := (w_s119).trans s120
    have oL_s120 := s120 _ _ oL_s119
    have oM_s120 := (oM_s119).same s120
    have oC_s120 := s120 _ _ oC_s119
    have x0_s120 := (x119).same s120
    refine ⟨_, rfl, pV, _, _, _, rfl, rfl, SqL.of (v_s120).hV, atI_nat (j := 2) rfl, _, rfl, fun a2 H121 s121 n121 x121 => ?_⟩
    have v_s121 := (v_s120).same s121
    have w_s121 := (w_s120).trans s121
    have oL_s121 := s121 _ _ oL_s120
    have oM_s121 := (oM_s120).same s121
    have oC_s121 := s121 _ _ oC_s120
    have x0_s121 := (x0_s120).same s121
    have x1_s121 := (x120).same s121
    refine ⟨smallB rfl, fun p hp => ?_⟩
    have fp := back_none w_s121 hp
    generalize eNew : upd _ p _ = H122
    obtain ⟨s122, u122⟩ := fresh_of eNew hp
    clear eNew
    have v_s122 := (v_s121).same s122
    have w_s122 := (w_s121).trans s122
    have oL_s122 := s122 _ _ oL_s121
    have oM_s122 := (oM_s121).same s122
    have oC_s122 := s122 _ _ oC_s121
    have x0_s122 := (x0_s121).same s122
    have x1_s122 := (x1_s121).same s122
    have x2_s122 := (x121).same s122
    exact ⟨p, 0, [a0, a1, a2], rfl, fp, w_s122, v_s122, rfl, u122, (((Made.nil).snoc 0 rfl rfl x0_s122).snoc 1 rfl rfl x1_s122).snoc 2 rfl rfl x2_s122, oL_s122, oM_s122, oC_s122⟩
  rintro σ H5 ⟨pp, cl, as, rfl, f5, s5, v5, hlen, l5, M5, oL5, oM5, oC5⟩
  refine ⟨fun σ H' => ∃ (p cl : Addr) (as : List Addr), σ = sg pb soul spot (some (.ref pV)) (some (.ref pM)) (some (.ref p)) none none none ∧ H5 p = none ∧ Same H5 H' ∧ VF H' pV pl pt spot soul ∧ as.length = 6 ∧ H' p = some (.lst (as.map V.ref)) ∧ Made K c H' as spot soul cl pt ∧ H' cl = some (.lst [.int 0, .int 1]) ∧ H' pM = some (.lst (aM.map V.ref)) ∧ Made K c H' aM spot soul cM pt ∧ H' cM = some (.lst [.int 0, .int 1]), ?_, ?_⟩
  · refine ⟨_, rfl, ?_⟩
    refine ⟨_, rfl, pV, _, _, _, rfl, rfl, SqL.of (v5).hV, atI_nat (j := 3) rfl, _, rfl, pl, _, rfl, SqL.of (v5).hl, fun a3 cl H123 s123 n123 nl123 uc123 x123 => ?_⟩
    have v_s123 := (v5).same s123
    have w_s123 := ((same_refl H5)).trans s123
    have oL_s123 := s123 _ _ oL5
    have oM_s123 := (oM5).same s123
    have oC_s123 := s123 _ _ oC5
    have l_s123 := s123 _ _ l5
    have M_s123 := (M5).same s123
    refine ⟨_, rfl, pV, _, _, _, rfl, rfl, SqL.of (v_s123).hV, atI_nat (j := 4) rfl, _, rfl, fun a4 H124 s124 n124 x124 => ?_⟩
    have v_s124 := (v_s123).same s124
    have w_s124 := (w_s123).trans s124
    have oL_s124 := s124 _ _ oL_s123
    have oM_s124 := (oM_s123).same s124
    have oC_s124 := s124 _ _ oC_s123
    have l_s124 := s124 _ _ l_s123
    have M_s124 := (M_s123).same s124
    have c_s124 := s124 _ _ uc123
    have x3_s124 := (x123).same s124
    refine ⟨_, rfl, pV, _, _, _, rfl, rfl, SqL.of (v_s124).hV, atI_nat (j := 5) rfl, _, rfl, fun a5 H125 s125 n125 x125 => ?_⟩
    have v_s125 := (v_s124).same s125
    have w_s125 := (w_s124).trans s125
    have oL_s125 := s125 _ _ oL_s124
    have oM_s125 := (oM_s124).same s125
    have oC_s125 := s125 _ _ oC_s124
    have l_s125 := s125 _ _ l_s124
    have M_s125 := (M_s124).same s125
    have c_s125 := s125 _ _ c_s124
    have x3_s125 := (x3_s124).same s125
    have x4_s125 := (x124).same s125
    refine ⟨smallB rfl, fun l hl => ?_⟩
    generalize eNew : upd _ l _ = H126
    obtain ⟨s126, u126⟩ := fresh_of eNew hl
    clear eNew
    have v_s126 := (v_s125).same s126
    have w_s126 := (w_s125).trans s126
    have oL_s126 := s126 _ _ oL_s125
    have oM_s126 := (oM_s125).same s126
    have oC_s126 := s126 _ _ oC_s125
    have l_s126 := s126 _ _ l_s125
    have M_s126 := (M_s125).same s126
    have c_s126 := s126 _ _ c_s125
    have x3_s126 := (x3_s125).same s126
    have x4_s126 := (x4_s125).same s126
    have x5_s126 := (x125).same s126
    refine ⟨pp, l, _, _, rfl, rfl, l_s126, u126, (by rw [List.length_map, hlen]; exact smallB rfl), fun p hp => ?_⟩
    have fp := back_none w_s126 hp
    generalize eNew : upd _ p _ = H127
    obtain ⟨s127, u127⟩ := fresh_of eNew hp
    clear eNew
    have v_s127 := (v_s126).same s127
    have w_s127 := (w_s126).trans s127
    have oL_s127 := s127 _ _ oL_s126
    have oM_s127 := (oM_s126).same s127
    have oC_s127 := s127 _ _ oC_s126
    have l_s127 := s127 _ _ l_s126
    have M_s127 := (M_s126).same s127
    have c_s127 := s127 _ _ c_s126
    have x3_s127 := (x3_s126).same s127
    have x4_s127 := (x4_s126).same s127
    have x5_s127 := (x5_s126).same s127
    have u9 : _ = some (HO.lst ((as ++ [a3] ++ [a4] ++ [a5]).map V.ref)) := u127.trans (by simp)
    exact ⟨p, cl, as ++ [a3] ++ [a4] ++ [a5], rfl, fp, w_s127, v_s127, (by simp [hlen]), u9, ((((M_s127).recl (by omega)).snoc 3 (by simp [hlen]) rfl x3_s127).snoc 4 (by simp [hlen]) rfl x4_s127).snoc 5 (by simp [hlen]) rfl x5_s127, c_s127, oL_s127, oM_s127, oC_s127⟩
  clear hlen
  rintro σ H6 ⟨pp, cl, as, rfl, f6, s6, v6, hlen, l6, M6, c6, oL6, oM6, oC6⟩
  refine ⟨fun σ H' => ∃ (p cl : Addr) (as : List Addr), σ = sg pb soul spot (some (.ref pV)) (some (.ref pM)) (some (.ref p)) none none none ∧ H6 p = none ∧ Same H6 H' ∧ VF H' pV pl pt spot soul ∧ as.length = 9 ∧ H' p = some (.lst (as.map V.ref)) ∧ Made K c H' as spot soul cl pt ∧ H' cl = some (.lst [.int 0, .int 1]) ∧ H' pM = some (.lst (aM.map V.ref)) ∧ Made K c H' aM spot soul cM pt ∧ H' cM = some (.lst [.int 0, .int 1]), ?_, ?_⟩
  · refine ⟨_, rfl, ?_⟩
    refine ⟨_, rfl, pV, _, _, _, rfl, rfl, SqL.of (v6).hV, atI_nat (j := 6) rfl, _, rfl, fun a6 H128 s128 n128 x128 => ?_⟩
    have v_s128 := (v6).same s128
    have w_s128 := ((same_refl H6)).trans s128
    have oL_s128 := s128 _ _ oL6
    have oM_s128 := (oM6).same s128
    have oC_s128 := s128 _ _ oC6
    have l_s128 := s128 _ _ l6
    have M_s128 := (M6).same s128
    have c_s128 := s128 _ _ c6
    refine ⟨_, rfl, pV, _, _, _, rfl, rfl, SqL.of (v_s128).hV, atI_nat (j := 7) rfl, _, rfl, fun a7 H129 s129 n129 x129 => ?_⟩
    have v_s129 := (v_s128).same s129
    have w_s129 := (w_s128).trans s129
    have oL_s129 := s129 _ _ oL_s128
    have oM_s129 := (oM_s128).same s129
    have oC_s129 := s129 _ _ oC_s128
    have l_s129 := s129 _ _ l_s128
    have M_s129 := (M_s128).same s129
    have c_s129 := s129 _ _ c_s128
    have x6_s129 := (x128).same s129
    refine ⟨_, rfl, pV, _, _, _, rfl, rfl, SqL.of (v_s129).hV, atI_nat (j := 8) rfl, _, rfl, fun a8 H130 s130 n130 x130 => ?_⟩
    have v_s130 := (v_s129).same s130
    have w_s130 := (w_s129).trans s130
    have oL_s130 := s130 _ _ oL_s129
    have oM_s130 := (oM_s129).same s130
    have oC_s130 := s130 _ _ oC_s129
    have l_s130 := s130 _ _ l_s129
    have M_s130 := (M_s129).same s130
    have c_s130 := s130 _ _ c_s129
    have x6_s130 := (x6_s129).same s130
    have x7_s130 := (x129).same s130
    refine ⟨smallB rfl, fun l hl => ?_⟩
    generalize eNew : upd _ l _ = H131
    obtain ⟨s131, u131⟩ := fresh_of eNew hl
    clear eNew
    have v_s131 := (v_s130).same s131
    have w_s131 := (w_s130).trans s131
    have oL_s131 := s131 _ _ oL_s130
    have oM_s131 := (oM_s130).same s131
    have oC_s131 := s131 _ _ oC_s130
    have l_s131 := s131 _ _ l_s130
    have M_s131 := (M_s130).same s131
    have c_s131 := s131 _ _ c_s130
    have x6_s131 := (x6_s130).same s131
    have x7_s131 := (x7_s130).same s131
    have x8_s131 := (x130).same s131
    refine ⟨pp, l, _, _, rfl, rfl, l_s131, u131, (by rw [List.length_map, hlen]; exact smallB rfl), fun p hp => ?_⟩
    have fp := back_none w_s131 hp
    generalize eNew : upd _ p _ = H132
    obtain ⟨s132, u132⟩ := fresh_of eNew hp
    clear eNew
    have v_s132 := (v_s131).same s132
    have w_s132 := (w_s131).trans s132
    have oL_s132 := s132 _ _ oL_s131
    have oM_s132 := (oM_s131).same s132
    have oC_s132 := s132 _ _ oC_s131
    have l_s132 := s132 _ _ l_s131
    have M_s132 := (M_s131).same s132
    have c_s132 := s132 _ _ c_s131
    have x6_s132 := (x6_s131).same s132
    have x7_s132 := (x7_s131).same s132
    have x8_s132 := (x8_s131).same s132
    have u9 : _ = some (HO.lst ((as ++ [a6] ++ [a7] ++ [a8]).map V.ref)) := u132.trans (by simp)
    exact ⟨p, cl, as ++ [a6] ++ [a7] ++ [a8], rfl, fp, w_s132, v_s132, (by simp [hlen]), u9, (((M_s132).snoc 6 (by simp [hlen]) rfl x6_s132).snoc 7 (by simp [hlen]) rfl x7_s132).snoc 8 (by simp [hlen]) rfl x8_s132, c_s132, oL_s132, oM_s132, oC_s132⟩
  clear hlen
  rintro σ H7 ⟨pp, cl, as, rfl, f7, s7, v7, hlen, l7, M7, c7, oL7, oM7, oC7⟩
  refine ⟨fun σ H' => ∃ (p cl : Addr) (as : List Addr), σ = sg pb soul spot (some (.ref pV)) (some (.ref pM)) (some (.ref p)) none none none ∧ H7 p = none ∧ Same H7 H' ∧ VF H' pV pl pt spot soul ∧ as.length = 12 ∧ H' p = some (.lst (as.map V.ref)) ∧ Made K c H' as spot soul cl pt ∧ H' cl = some (.lst [.int 0, .int 1]) ∧ H' pM = some (.lst (aM.map V.ref)) ∧ Made K c H' aM spot soul cM pt ∧ H' cM = some (.lst [.int 0, .int 1]), ?_, ?_⟩
  · refine ⟨_, rfl, ?_⟩
    refine ⟨_, rfl, pV, _, _, _, rfl, rfl, SqL.of (v7).hV, atI_nat (j := 9) rfl, _, rfl, pt, _, rfl, SqT.of (v7).ht, fun a9 H133 s133 n133 x133 => ?_⟩
    have v_s133 := (v7).same s133
    have w_s133 := ((same_refl H7)).trans s133
    have oL_s133 := s133 _ _ oL7
    have oM_s133 := (oM7).same s133
    have oC_s133 := s133 _ _ oC7
    have l_s133 := s133 _ _ l7
    have M_s133 := (M7).same s133
    have c_s133 := s133 _ _ c7
    refine ⟨_, rfl, pV, _, _, _, rfl, rfl, SqL.of (v_s133).hV, atI_nat (j := 10) rfl, _, rfl, fun a10 H134 s134 n134 x134 => ?_⟩
    have v_s134 := (v_s133).same s134
    have w_s134 := (w_s133).trans s134
    have oL_s134 := s134 _ _ oL_s133
    have oM_s134 := (oM_s133).same s134
    have oC_s134 := s134 _ _ oC_s133
    have l_s134 := s134 _ _ l_s133
    have M_s134 := (M_s133).same s134
    have c_s134 := s134 _ _ c_s133
    have x9_s134 := (x133).same s134
    refine ⟨_, rfl, pV, _, _, _, rfl, rfl, SqL.of (v_s134).hV, atI_nat (j := 11) rfl, _, rfl, fun a11 H135 s135 n135 x135 => ?_⟩
    have v_s135 := (v_s134).same s135
    have w_s135 := (w_s134).trans s135
    have oL_s135 := s135 _ _ oL_s134
    have oM_s135 := (oM_s134).same s135
    have oC_s135 := s135 _ _ oC_s134
    have l_s135 := s135 _ _ l_s134
    have M_s135 := (M_s134).same s135
    have c_s135 := s135 _ _ c_s134
    have x9_s135 := (x9_s134).same s135
    have x10_s135 := (x134).same s135
    refine ⟨smallB rfl, fun l hl => ?_⟩
    generalize eNew : upd _ l _ = H136
    obtain ⟨s136, u136⟩ := fresh_of eNew hl
    clear eNew
    have v_s136 := (v_s135).same s136
    have w_s136 := (w_s135).trans s136
    have oL_s136 := s136 _ _ oL_s135
    have oM_s136 := (oM_s135).same s136
    have oC_s136 := s136 _ _ oC_s135
    have l_s136 := s136 _ _ l_s135
    have M_s136 := (M_s135).same s136
    have c_s136 := s136 _ _ c_s135
    have x9_s136 := (x9_s135).same s136
    have x10_s136 := (x10_s135).same s136
    have x11_s136 := (x135).same s136
    refine ⟨pp, l, _, _, rfl, rfl, l_s136, u136, (by rw [List.length_map, hlen]; exact smallB rfl), fun p hp => ?_⟩
    have fp := back_none w_s136 hp
    generalize eNew : upd _ p _ = H137
    obtain ⟨s137, u137⟩ := fresh_of eNew hp
    clear eNew
    have v_s137 := (v_s136).same s137
    have w_s137 := (w_s136).trans s137
    have oL_s137 := s137 _ _ oL_s136
    have oM_s137 := (oM_s136).same s137
    have oC_s137 := s137 _ _ oC_s136
    have l_s137 := s137 _ _ l_s136
    have M_s137 := (M_s136).same s137
    have c_s137 := s137 _ _ c_s136
    have x9_s137 := (x9_s136).same s137
    have x10_s137 := (x10_s136).same s137
    have x11_s137 := (x11_s136).same s137
    have u9 : _ = some (HO.lst ((as ++ [a9] ++ [a10] ++ [a11]).map V.ref)) := u137.trans (by simp)
    exact ⟨p, cl, as ++ [a9] ++ [a10] ++ [a11], rfl, fp, w_s137, v_s137, (by simp [hlen]), u9, (((M_s137).snoc 9 (by simp [hlen]) rfl x9_s137).snoc 10 (by simp [hlen]) rfl x10_s137).snoc 11 (by simp [hlen]) rfl x11_s137, c_s137, oL_s137, oM_s137, oC_s137⟩
  clear hlen
  rintro σ H8 ⟨pp, cl, as, rfl, f8, s8, v8, hlen, l8, M8, c8, oL8, oM8, oC8⟩
  refine ⟨fun σ H' => ∃ (p cl : Addr) (as : List Addr), σ = sg pb soul spot (some (.ref pV)) (some (.ref pM)) (some (.ref p)) none none none ∧ Same H7 H' ∧ VF H' pV pl pt spot soul ∧ as.length = 13 ∧ H' p = some (.lst (as.map V.ref)) ∧ Made K c H' as spot soul cl pt ∧ H' cl = some (.lst [.int 0, .int 1]) ∧ H' pM = some (.lst (aM.map V.ref)) ∧ Made K c H' aM spot soul cM pt ∧ H' cM = some (.lst [.int 0, .int 1]), ?_, ?_⟩
  · refine ⟨_, rfl, .inl ⟨rfl, _, SqL.of l8⟩, _, rfl, pV, _, _, _, rfl, rfl, SqL.of v8.hV, atI_nat (j := 12) rfl, _, rfl, fun a H' sE nE xE => ?_⟩
    have lE := sE _ _ l8
    refine ⟨pp, _, _, rfl, rfl, lE, (by rw [List.length_map, hlen]; exact smallC rfl), ?_⟩
    generalize eMut : upd _ pp _ = H''
    obtain ⟨t, u⟩ := mut_of eMut
    clear eMut
    have z := same_mut (s8.trans sE) f8 t
    have nc : cl ≠ pp := fun e => by
      have y := c8
      rw [e, l8] at y
      have y2 := congrArg List.length (HO.lst.inj (Option.some.inj y))
      rw [List.length_map, hlen] at y2
      exact absurd y2 (by decide)
    have u9 : H'' pp = some (HO.lst ((as ++ [a]).map V.ref)) := u.trans (by simp)
    exact ⟨pp, cl, as ++ [a], rfl, z, v7.same z, (by simp [hlen]), u9, ((M8.same sE).mut lE t).snoc 12 hlen rfl (xE.mut lE t), t _ _ nc (sE _ _ c8), z _ _ oL7, oM7.same z, z _ _ oC7⟩
  clear hlen
  rintro σ HL ⟨pN, cN, aN, rfl, sL, vL, hN, lN, MN, CN, lM, MM, CM⟩
  refine ⟨fun σ H' => ∃ x6 x7 x8 : Option V, σ = sg pb soul spot (some (.ref pV)) (some (.ref pM)) (some (.ref pN)) x6 x7 x8 ∧ Same HL H', ?_, ?_⟩
  · refine ⟨_, rfl, _, rfl, smallB rfl, fun tp htp => ?_⟩
    generalize eNew : upd _ tp _ = HT
    obtain ⟨sT, uT⟩ := fresh_of eNew htp
    clear eNew
    refine ⟨tp, rfl, ⟨_, SqT.of uT⟩, for_tup (K := K) (xs := [.ref pM, .ref pN]) (fun i σ H' => ∃ x6 x7 x8 : Option V, σ = sg pb soul spot (some (.ref pV)) (some (.ref pM)) (some (.ref pN)) x6 x7 x8 ∧ Same HT H') ⟨_, _, _, rfl, same_refl _⟩ ?_ ?_ ?_⟩
    · rintro i σ H' _ ⟨x6, x7, x8, rfl, sP⟩
      exact SqT.of (sP _ _ uT)
    · rintro i x σ HI hi ⟨x6, x7, x8, rfl, sP⟩
      have wI := sT.trans sP
      obtain ⟨q, as, cl, rfl, ha, hq, mq, cq⟩ : ∃ (q : Addr) (as : List Addr) (cl : Addr), x = .ref q ∧ as.length = 13 ∧ HI q = some (.lst (as.map V.ref)) ∧ Made K c HI as spot soul cl pt ∧ HI cl = some (.lst [.int 0, .int 1]) := by
        have hi2 : i < 2 := (List.getElem?_eq_some_iff.mp hi).1
        match i, hi2 with
        | 0, _ =>
          cases hi
          exact ⟨pM, aM, cM, rfl, hM, wI _ _ lM, MM.same wI, wI _ _ CM⟩
        | 1, _ =>
          cases hi
          exact ⟨pN, aN, cN, rfl, hN, wI _ _ lN, MN.same wI, wI _ _ CN⟩
      have vI := vL.same wI
      obtain ⟨e0, at0, y0⟩ := mq.at ha 0 (by decide) rfl
      obtain ⟨e1, at1, y1⟩ := mq.at ha 1 (by decide) rfl
      obtain ⟨e2, at2, y2⟩ := mq.at ha 2 (by decide) rfl
      obtain ⟨e3, at3, y3⟩ := mq.at ha 3 (by decide) rfl
      obtain ⟨e4, at4, y4⟩ := mq.at ha 4 (by decide) rfl
      obtain ⟨e5, at5, y5⟩ := mq.at ha 5 (by decide) rfl
      obtain ⟨e6, at6, y6⟩ := mq.at ha 6 (by decide) rfl
      obtain ⟨e7, at7, y7⟩ := mq.at ha 7 (by decide) rfl
      obtain ⟨e8, at8, y8⟩ := mq.at ha 8 (by decide) rfl
      obtain ⟨e9, at9, y9⟩ := mq.at ha 9 (by decide) rfl
      obtain ⟨e10, at10, y10⟩ := mq.at ha 10 (by decide) rfl
      obtain ⟨e11, at11, y11⟩ := mq.at ha 11 (by decide) rfl
      obtain ⟨e12, at12, y12⟩ := mq.at ha 12 (by decide) rfl
      refine ⟨fun σ H' => ∃ pF, σ = sg pb soul spot (some (.ref pV)) (some (.ref pM)) (some (.ref pN)) (some (.ref q)) (some (.ref pF)) x8 ∧ Same HI H' ∧ H' pF = some (.lst ((valsOf spot soul cl pt).take 6)), ?_, ?_⟩
      · refine ⟨_, rfl, q, _, _, _, rfl, rfl, SqL.of hq, at0, e0, c.BadText, _, _, rfl, y0, M.BadText.no, lookup_one _ _, _, rfl, q, _, _, _, rfl, rfl, SqL.of hq, at1, e1, c.BadLine, _, _, rfl, y1, M.BadLine.no, lookup_one _ _, _, rfl, q, _, _, _, rfl, rfl, SqL.of hq, at2, e2, c.Known, _, _, rfl, y2, M.Known.no, lookup_one _ _, _, rfl, q, _, _, _, rfl, rfl, SqL.of hq, at3, e3, c.Contradiction, _, _, rfl, y3, M.Contradiction.no, lookup_one _ _, _, rfl, q, _, _, _, rfl, rfl, SqL.of hq, at4, e4, c.Gap, _, _, rfl, y4, M.Gap.no, lookup_one _ _, _, rfl, q, _, _, _, rfl, rfl, SqL.of hq, at5, e5, c.NoPerson, _, _, rfl, y5, M.NoPerson.no, lookup_one _ _, smallB rfl, fun l hl => ?_⟩
        generalize eNew : upd _ l _ = H'
        obtain ⟨s', u'⟩ := fresh_of eNew hl
        clear eNew
        exact ⟨l, rfl, s', u'⟩
      rintro σ HJ ⟨pF, rfl, sJ, uJ⟩
      refine ⟨fun σ H' => ∃ pG, σ = sg pb soul spot (some (.ref pV)) (some (.ref pM)) (some (.ref pN)) (some (.ref q)) (some (.ref pG)) x8 ∧ Same HI H' ∧ H' pG = some (.lst ((valsOf spot soul cl pt).take 11)), ?_, ?_⟩
      · refine ⟨_, rfl, _, rfl, q, _, _, _, rfl, rfl, SqL.of (sJ _ _ hq), at6, e6, c.NoPlace, _, _, rfl, (y6.same sJ), M.NoPlace.no, lookup_one _ _, _, rfl, q, _, _, _, rfl, rfl, SqL.of (sJ _ _ hq), at7, e7, c.NoNumber, _, _, rfl, (y7.same sJ), M.NoNumber.no, lookup_one _ _, _, rfl, q, _, _, _, rfl, rfl, SqL.of (sJ _ _ hq), at8, e8, c.NoOperation, _, _, rfl, (y8.same sJ), M.NoOperation.no, lookup_one _ _, _, rfl, q, _, _, _, rfl, rfl, SqL.of (sJ _ _ hq), at9, e9, c.Blocked, _, _, rfl, (y9.same sJ), M.Blocked.no, lookup_one _ _, _, rfl, q, _, _, _, rfl, rfl, SqL.of (sJ _ _ hq), at10, e10, c.Barred, _, _, rfl, (y10.same sJ), M.Barred.no, lookup_one _ _, smallB rfl, fun l hl => ?_⟩
        generalize eNew : upd _ l _ = H'
        obtain ⟨s', u'⟩ := fresh_of eNew hl
        clear eNew
        refine ⟨pF, l, _, _, rfl, rfl, s' _ _ uJ, u', smallB rfl, fun p hp => ?_⟩
        generalize eNew : upd _ p _ = H''
        obtain ⟨s'', u''⟩ := fresh_of eNew hp
        clear eNew
        exact ⟨p, rfl, (sJ.trans s').trans s'', u''⟩
      rintro σ HK ⟨pG, rfl, sK, uK⟩
      refine ⟨fun σ H' => σ = sg pb soul spot (some (.ref pV)) (some (.ref pM)) (some (.ref pN)) (some (.ref q)) (some (.ref pG)) x8 ∧ Same HI H', ?_, ?_⟩
      · refine ⟨_, rfl, _, rfl, q, _, _, _, rfl, rfl, SqL.of (sK _ _ hq), at11, e11, c.TooMany, _, _, rfl, (y11.same sK), M.TooMany.no, lookup_one _ _, _, rfl, q, _, _, _, rfl, rfl, SqL.of (sK _ _ hq), at12, e12, c.Full, _, _, rfl, (y12.same sK), M.Full.no, lookup_one _ _, smallB rfl, fun l hl => ?_⟩
        generalize eNew : upd _ l _ = H'
        obtain ⟨s', u'⟩ := fresh_of eNew hl
        clear eNew
        refine ⟨pG, l, _, _, rfl, rfl, s' _ _ uK, u', smallB rfl, fun p hp => ?_⟩
        generalize eNew : upd _ p _ = H''
        obtain ⟨s'', u''⟩ := fresh_of eNew hp
        clear eNew
        have w2 := (sK.trans s').trans s''
        refine ⟨_, rfl, _, _, rfl, flds_same (cl := cl) u'' (w2 _ _ cq) (vI.same w2), fun H3 s3 => ?_⟩
        refine ⟨_, rfl, ?_⟩
        refine iteF ?_
        exact ⟨rfl, w2.trans s3⟩
      rintro σ HM ⟨rfl, sM⟩
      refine ⟨fun σ H' => ∃ pK, σ = sg pb soul spot (some (.ref pV)) (some (.ref pM)) (some (.ref pN)) (some (.ref q)) (some (.ref pG)) (some (.ref pK)) ∧ Same HM H' ∧ H' pK = some (.lst kinds13), ?_, ?_⟩
      · refine ⟨smallB rfl, fun l0 hl0 => ?_⟩
        generalize eNew : upd _ l0 _ = K0a
        obtain ⟨sa0, ua0⟩ := fresh_of eNew hl0
        clear eNew
        refine ⟨l0, _, _, rfl, rfl, ua0, by decide, by decide, smallB rfl, fun r0 hr0 => ?_⟩
        generalize eNew : upd _ r0 _ = K0b
        obtain ⟨sb0, ub0⟩ := fresh_of eNew hr0
        clear eNew
        refine ⟨smallB rfl, fun l1 hl1 => ?_⟩
        generalize eNew : upd _ l1 _ = K1a
        obtain ⟨sa1, ua1⟩ := fresh_of eNew hl1
        clear eNew
        refine ⟨l1, _, _, rfl, rfl, ua1, by decide, by decide, smallB rfl, fun r1 hr1 => ?_⟩
        generalize eNew : upd _ r1 _ = K1b
        obtain ⟨sb1, ub1⟩ := fresh_of eNew hr1
        clear eNew
        have uc1 := sb1 _ _ (sa1 _ _ ub0)
        refine ⟨r0, r1, _, _, rfl, rfl, uc1, ub1, smallB rfl, fun t1 ht1 => ?_⟩
        generalize eNew : upd _ t1 _ = K1c
        obtain ⟨sc1, ud1⟩ := fresh_of eNew ht1
        clear eNew
        refine ⟨smallB rfl, fun l2 hl2 => ?_⟩
        generalize eNew : upd _ l2 _ = K2a
        obtain ⟨sa2, ua2⟩ := fresh_of eNew hl2
        clear eNew
        refine ⟨l2, _, _, rfl, rfl, ua2, by decide, by decide, smallB rfl, fun r2 hr2 => ?_⟩
        generalize eNew : upd _ r2 _ = K2b
        obtain ⟨sb2, ub2⟩ := fresh_of eNew hr2
        clear eNew
        have uc2 := sb2 _ _ (sa2 _ _ ud1)
        refine ⟨t1, r2, _, _, rfl, rfl, uc2, ub2, smallB rfl, fun t2 ht2 => ?_⟩
        generalize eNew : upd _ t2 _ = K2c
        obtain ⟨sc2, ud2⟩ := fresh_of eNew ht2
        clear eNew
        refine ⟨smallB rfl, fun l3 hl3 => ?_⟩
        generalize eNew : upd _ l3 _ = K3a
        obtain ⟨sa3, ua3⟩ := fresh_of eNew hl3
        clear eNew
        refine ⟨l3, _, _, rfl, rfl, ua3, by decide, by decide, smallB rfl, fun r3 hr3 => ?_⟩
        generalize eNew : upd _ r3 _ = K3b
        obtain ⟨sb3, ub3⟩ := fresh_of eNew hr3
        clear eNew
        have uc3 := sb3 _ _ (sa3 _ _ ud2)
        refine ⟨t2, r3, _, _, rfl, rfl, uc3, ub3, smallB rfl, fun t3 ht3 => ?_⟩
        generalize eNew : upd _ t3 _ = K3c
        obtain ⟨sc3, ud3⟩ := fresh_of eNew ht3
        clear eNew
        exact ⟨t3, rfl, ((((((((((((same_refl HM)).trans sa0).trans sb0).trans sa1).trans sb1).trans sc1).trans sa2).trans sb2).trans sc2).trans sa3).trans sb3).trans sc3, ud3⟩
      rintro σ HP ⟨pK, rfl, sQ, uK2⟩
      have wP := sM.trans sQ
      have hq2 := wP _ _ hq
      have mq2 := mq.same wP
      have hl13 : (as.map V.ref).length = kinds13.length := by rw [List.length_map, ha]; rfl
      refine ⟨_, rfl, _, rfl, q, pK, _, _, rfl, SqL.of hq2, SqL.of uK2, fun D hD => ?_⟩
      refine lc_it (walk_zip (xs := as.map V.ref) (ys := kinds13) (n := 13) (by rw [List.length_map, ha]; rfl)) (fun i H' => H' D = some (.lst (List.replicate i (.bl true))) ∧ Same HP H') ⟨upd_same, same_new hD _⟩ (fun i H' _ z => ⟨SqL.of (z.2 _ _ hq2), SqL.of (z.2 _ _ uK2)⟩) ?_ ?_
      · intro i x H1' H2' hi' z y
        obtain ⟨z1, z2⟩ := z
        obtain ⟨Tt, u, v, rfl, hT, rfl, e1, e2⟩ := y
        have g2 := same_new hT (.tup [u, v])
        refine ⟨Tt, _, rfl, SqT.of upd_same, rfl, _, _, rfl, _, _, rfl, rfl, rfl, ?_⟩
        obtain ⟨a1, C1, fs1, k1, rfl, rfl, ex1, cl1, in1, lt1⟩ := (mq2.same (z2.trans g2)).each T e1 e2
        refine ⟨_, rfl, _, rfl, a1, C1, fs1, k1, rfl, ex1, cl1, in1, lt1, fun H3 s3 => ?_⟩
        refine ⟨_, s3 _ _ (g2 _ _ z1), (by rw [List.length_replicate]; exact small1000 (by omega)), ?_, ?_⟩
        · rw [upd_same, List.replicate_succ']
        · exact fun c o hc => by
            have hc2 := s3 _ _ (g2 _ _ (z2 _ _ hc))
            rw [upd_ne (ne_of_none hc hD)]
            exact hc2
      · intro H1' z
        refine ⟨D, List.replicate 13 true, rfl, SqL.of z.1, ?_⟩
        refine ⟨_, rfl, ?_⟩
        refine iteF ?_
        exact ⟨_, _, _, rfl, (sP.trans wP).trans z.2⟩
    · rintro σ H' ⟨x6, x7, x8, rfl, sP⟩
      exact ⟨x6, x7, x8, rfl, sT.trans sP⟩
  rintro σ HE ⟨x6, x7, x8, rfl, sE⟩
  refine fun a H1' s1' n1' ex1' => ?_
  refine ⟨a, c.OtherPeople, [], 0, rfl, ex1', T.xOtherPeople, (by simp [Ad.all]), by decide, fun H2' s2' => ?_⟩
  refine ⟨true, rfl, ?_⟩
  refine iteT ?_
  refine ⟨smallB rfl, fun l hl => ?_⟩
  generalize eNew : upd _ l _ = H3'
  obtain ⟨s3', u3'⟩ := fresh_of eNew hl
  clear eNew
  refine ⟨smallB rfl, fun m hm => ?_⟩
  generalize eNew : upd _ m _ = H4'
  obtain ⟨s4', u4'⟩ := fresh_of eNew hm
  clear eNew
  refine ⟨.list [.int 300, .int 2000], .list [.int 300, .int 2000], .lst (SqL.of (s4' _ _ u3')) (.cons (.int _) (.cons (.int _) .nil)), .lst (SqL.of u4') (.cons (.int _) (.cons (.int _) .nil)), rfl, rfl, ?_⟩
  have wE : Same H0 H4' := (((((((((((s1.trans s2).trans s3).trans s4).trans s5).trans s6).trans s7).trans sL).trans sE).trans s1').trans s2').trans s3').trans s4'
  exact hQ _ (sB.trans (SameB.of wE)) (hB.same wE)
end
end Ov

set_option Elab.async false
set_option linter.all false
set_option maxRecDepth 100000
set_option maxHeartbeats 4000000
namespace Ov
open PySem L2
abbrev sLaw : Stmt := top 25
def spLaw (K : PySem.W.Frag) : Sp := fun vs H Q _ => ∃ (a : Addr) (ns : List Int), vs = [.ref a] ∧ SqL K H a (ns.map V.int) ∧ ns.length ≤ 63 ∧ ∀ H', Q (.bl true) H'
section
variable {P : Program} {w : World} {K : PySem.W.Frag} {mg : Str → Option Value} {base : Heap} {f gB gR : Addr} {fd dB dR : FuncData}
theorem scLaw : FnScope ["_law_script", "_law_k", "_law_box_here", "_law_turn"] ["_law_script"] (defScope sLaw) := ⟨rfl, rfl, rfl, by decide +kernel, rfl, by decide +kernel, by decide +kernel⟩
theorem ok_law (F : Fun K "law" "law" sLaw f fd) (GB : FnOk P w K mg base CX0 2 gB dB ["_law_script", "_law_k"] (spBox K)) (bB : Binds K dB ["_law_script", "_law_k"] []) (kB : PySem.W.keepIn K (.ref gB) = true) (mB : mg "_law_box" = some (.ref gB))
    (GR : FnOk P w K mg base CX0 4 gR dR ["_law_box_here"] (spRight 1000)) (bR : Binds K dR ["_law_box_here"] []) (kR : PySem.W.keepIn K (.ref gR) = true) (mR : mg "_law_right" = some (.ref gR)) (B : Blt mg) (B3 : Blt3 mg) :
    FnOk P w K mg base CX0 5 f fd ["_law_script"] (spLaw K) := by
  refine F.ok scLaw (fun vs H Q E h => ?_) (fun cdv A outer s H vs Q E hr h => ?_)
  · obtain ⟨a, ns, rfl, _⟩ := h
    rfl
  obtain ⟨a, ns, rfl, hS, hn, q⟩ := h
  have hr2 : Room 2 _ := hr.mono (by decide)
  refine ⟨_, (Evl.pss_cut (ps_for PassesOwn.never rfl (pi_range1 rfl B3.range (pa_cons (pe_op op_add pe_int (pe_callB (call_min2 rfl) rfl B3.min (by decide +kernel) (pa_cons pe_int (pa_cons (pe_callB call_len_seq rfl B.len PySem.boot_len (pa_cons (pv 0) pa_nil)) pa_nil)))) pa_nil)) (pg_name (i := 1) scLaw.nd rfl (Or.inl rfl))
      (Evl.pss_cut (ps_set (i := 2) scLaw.nd rfl (Or.inr rfl) (pe_call GB hr2 rfl mB kB bB .nil pass0 (pa_cons (pv 0) (pa_cons (pv 1) pa_nil))))
      (pss_one (ps_if (pt_not (pt_val (pe_callB (cr_all rfl) rfl B.all (by decide +kernel) (pa_cons (pe_lc (own := [("_law_turn", 3)]) (g := gName 3) rfl scLaw.nd (pi_range1 rfl B3.range (pa_cons pe_int pa_nil)) (blkOk_by (own := [("_law_turn", 3)]) (N := ["_law_script", "_law_k", "_law_box_here", "_law_turn"]) (sc := defScope sLaw) (by decide +kernel)) (fun _ _ _ _ _ => pg_name (i := 3) scLaw.nd rfl (Or.inl rfl)) (fun _ _ _ _ _ => pts_nil) (fun _ _ _ _ _ => (pe_call GR hr rfl mR kR bR .nil pass0 (pa_cons (pv 2) pa_nil)))) pa_nil)))) (pss_one (ps_ret pe_bl)) pss_nil))))
    (pss_one (ps_ret pe_bl))), ?_⟩
  refine ⟨fun _ _ => True, ?_, fun σ' H' _ => q H'⟩
  have hl : (ns.map V.int).length = ns.length := List.length_map _
  refine ⟨_, rfl, a, _, rfl, .inl hS, _, _, rfl, _, _, rfl, rfl, _, rfl, ?_, ?_, ?_⟩
  · split <;> omega
  · split <;> omega
  refine for_range (lo := 0) (n := (1 + (if ((ns.map V.int).length : Int) < 3 then ((ns.map V.int).length : Int) else 3)).toNat) (fun i σ H' => ∃ x1 x2 : Option V, σ = [some (.ref a), x1, x2, none] ∧ Same H H') ⟨_, _, rfl, same_refl _⟩ ?_ ?_
  · rintro i σ HI hi ⟨x1, x2, rfl, sI⟩
    have hi4 : (i : Int) ≤ 3 := by
      have : (1 + (if ((ns.map V.int).length : Int) < 3 then ((ns.map V.int).length : Int) else 3)) ≤ 4 := by split <;> omega
      omega
    refine ⟨fun σ H' => ∃ (x1 : Option V) (p : Addr), σ = [some (.ref a), x1, some (.ref p), none] ∧ Same HI H' ∧ HI p = none ∧ Bx H' p 0, ?_, ?_⟩
    · exact ⟨_, rfl, _, rfl, a, ns, _, rfl, sI.seq hS, by omega, by omega, fun p H' s' np bx => ⟨_, p, rfl, s', np, bx⟩⟩
    rintro σ HB ⟨x1', p, rfl, sB, np, bx⟩
    refine ⟨1, rfl, by decide, by decide, fun D hD => ?_⟩
    obtain ⟨b0, b1, b2, hb, _⟩ := id bx
    have Dp : D ≠ p := fun z => by
      rw [z, hb] at hD
      cases hD
    refine lc_range (lo := 0) (n := 1) (fun i H' => H' D = some (.lst (List.replicate i (.bl true))) ∧ SameB p HB H' ∧ (i = 0 → Bx H' p 0)) ⟨upd_same, SameB.of (same_new hD _), fun _ => bx.same (same_new hD _)⟩ ?_ ?_
    · rintro j H' hj ⟨z1, z2, z3⟩
      have j0 : j = 0 := by omega
      subst j0
      refine ⟨rfl, ?_⟩
      refine ⟨_, rfl, p, 0, rfl, z3 rfl, by decide, by decide, fun H3 s3 b3 => ?_⟩
      refine ⟨_, s3 _ _ Dp z1, smallC rfl, upd_same, fun b o hbp hb => ?_, fun e => nomatch e⟩
      rw [upd_ne (ne_of_none hb hD)]
      exact s3 _ _ hbp (z2 _ _ hbp hb)
    · rintro H' ⟨z1, z2, _⟩
      refine ⟨D, [true], rfl, SqL.of z1, ?_⟩
      refine ⟨_, rfl, ?_⟩
      refine iteF ?_
      exact ⟨_, _, rfl, same_mut (sI.trans sB) (back_none sI np) z2⟩
  · rintro σ H' _
    trivial
end
end Ov

set_option Elab.async false
set_option linter.all false
set_option maxRecDepth 100000
set_option maxHeartbeats 4000000
namespace Ov
open PySem L2
theorem tl_tail (k : Nat) : PySem.W.excTail (tl k) (tl k) = true := by
  match k with
  | 0 => decide +kernel
  | 1 => decide +kernel
  | 2 => decide +kernel
  | _ + 3 => exact (by decide +kernel : PySem.W.excTail tlOverflowError tlOverflowError = true)
section
variable {K : PySem.W.Frag} {C : Addr} {nm q : Str} {N : Addr} {bs : List Value} {sn : List Str} {sub : List Value} {ab : Bool} {col : Option Bool} {dd : Option Addr} {k0 k1 k2 k3 k5 : Option Value}
theorem cl_mk (k : Nat) (xL : K.lookup C = some (excClassObj nm q C N bs (tl k) true sn sub ab col dd k0 k1 k2 k3 k5 (nw k)))
    (sa : PySem.W.findIn K (.ref C) "__setattr__" = some (some (.builtin "object.__setattr__"))) (ga : PySem.W.findIn K (.ref C) "__getattribute__" = some (some (.builtin "BaseException.__getattribute__"))) (gg : PySem.W.findIn K (.ref C) "__getattr__" = some none)
    (kC : PySem.W.keepIn K (.ref C) = true) (ca : PySem.W.findIn K (.ref C) "__class__" = some (some (.builtin "object.__class__"))) (ty : PySem.W.typeIn K (.ref C) = some (.type "type"))
    (sp : PySem.W.specialIn K (.builtin "object.__class__") "__get__" = some (some (.builtin "getset_descriptor.__get__"))) (tk : PySem.W.takesIn K (.builtin "object.__class__") = some true) : Cl K C k := by
  have hc : (PySem.W.clsIn K C).map (·.mro) = some (.ref C :: tl k) := by
    unfold PySem.W.clsIn
    rw [xL]
    rfl
  have hs : ∀ v, PySem.W.mroIn K C v = some ((Value.ref C :: tl k).contains v) := fun v => by
    obtain ⟨cd, h1, h2⟩ := Option.map_eq_some_iff.mp hc
    unfold PySem.W.mroIn
    rw [h1, Option.bind_some, h2]
    rfl
  have tB : (tl k).contains (.type "BaseException") = true ∧ (tl k).contains (.type "object") = true := by
    match k with
    | 0 => decide +kernel
    | 1 => decide +kernel
    | 2 => decide +kernel
    | _ + 3 => exact (by decide +kernel : tlOverflowError.contains (.type "BaseException") = true ∧ tlOverflowError.contains (.type "object") = true)
  refine ⟨⟨?_, ?_, sa, ga, gg, ?_, ?_, kC, ca, sp, tk, ?_⟩, hc, ty⟩
  · unfold PySem.W.excOver PySem.W.clsIn
    rw [xL]
    show (C == C && PySem.W.excTail (tl k) (tl k)) = true
    rw [tl_tail, beq_self_eq_true]
    rfl
  · unfold PySem.W.excInitIn
    rw [xL]
    show (C == C && nw k == nw k && !false && PySem.W.excTail (tl k) (tl k)) = true
    rw [tl_tail, beq_self_eq_true, beq_self_eq_true]
    rfl
  · show PySem.W.mroIn K C _ = _
    rw [hs, List.contains_cons, tB.1, Bool.or_true]
  · unfold PySem.W.hasDictIn PySem.W.clsIn
    rw [xL]
    rfl
  · rw [hs, List.contains_cons, tB.2, Bool.or_true]
end
theorem all_mk {l : PySem.W.OpenLaw} {w : World} {K : PySem.W.Frag} {h : Heap} {mg : Str → Option Value} {fa f0 f1 f2 f3 f4 f5 f6 f7 CBadLine iBadLine CBadText iBadText CBarred iBarred CBlocked iBlocked CContradiction iContradiction CFull iFull CGap iGap CKnown iKnown CNoNumber iNoNumber CNoOperation iNoOperation CNoPerson iNoPerson CNoPlace iNoPlace COtherPeople iOtherPeople CTooMany iTooMany : Addr} {tM1 tM2 : Tok} (X : K.In h) (G : h.Ns mainGlobals mg) (hfa : mg "law" = some (.ref fa))
    {od0 an0 : Option Addr} {sl0 : Array (Option Value)} {oc0 kV0 dc0 pm0 cd0 ct0 : Value}
    {od1 an1 : Option Addr} {sl1 : Array (Option Value)} {oc1 kV1 dc1 pm1 cd1 ct1 : Value}
    {od2 an2 : Option Addr} {sl2 : Array (Option Value)} {oc2 kV2 dc2 pm2 cd2 ct2 : Value}
    {od3 an3 : Option Addr} {sl3 : Array (Option Value)} {oc3 kV3 dc3 pm3 cd3 ct3 : Value}
    {od4 an4 : Option Addr} {sl4 : Array (Option Value)} {oc4 kV4 dc4 pm4 cd4 ct4 : Value}
    {od5 an5 : Option Addr} {sl5 : Array (Option Value)} {oc5 kV5 dc5 pm5 cd5 ct5 : Value}
    {od6 an6 : Option Addr} {sl6 : Array (Option Value)} {oc6 kV6 dc6 pm6 cd6 ct6 : Value}
    {od7 an7 : Option Addr} {sl7 : Array (Option Value)} {oc7 kV7 dc7 pm7 cd7 ct7 : Value}
    {nmBadLine qBadLine : Str} {NBadLine : Addr} {bsBadLine sbBadLine : List Value} {snBadLine : List Str} {abBadLine : Bool} {coBadLine : Option Bool} {ddBadLine : Option Addr} {w0BadLine w1BadLine w2BadLine w3BadLine w5BadLine : Option Value}
    {odBadLine anBadLine : Option Addr} {slBadLine : Array (Option Value)} {ocBadLine kVBadLine dcBadLine pmBadLine cdBadLine ctBadLine : Value}
    {nmBadText qBadText : Str} {NBadText : Addr} {bsBadText sbBadText : List Value} {snBadText : List Str} {abBadText : Bool} {coBadText : Option Bool} {ddBadText : Option Addr} {w0BadText w1BadText w2BadText w3BadText w5BadText : Option Value}
    {odBadText anBadText : Option Addr} {slBadText : Array (Option Value)} {ocBadText kVBadText dcBadText pmBadText cdBadText ctBadText : Value}
    {nmBarred qBarred : Str} {NBarred : Addr} {bsBarred sbBarred : List Value} {snBarred : List Str} {abBarred : Bool} {coBarred : Option Bool} {ddBarred : Option Addr} {w0Barred w1Barred w2Barred w3Barred w5Barred : Option Value}
    {odBarred anBarred : Option Addr} {slBarred : Array (Option Value)} {ocBarred kVBarred dcBarred pmBarred cdBarred ctBarred : Value}
    {nmBlocked qBlocked : Str} {NBlocked : Addr} {bsBlocked sbBlocked : List Value} {snBlocked : List Str} {abBlocked : Bool} {coBlocked : Option Bool} {ddBlocked : Option Addr} {w0Blocked w1Blocked w2Blocked w3Blocked w5Blocked : Option Value}
    {odBlocked anBlocked : Option Addr} {slBlocked : Array (Option Value)} {ocBlocked kVBlocked dcBlocked pmBlocked cdBlocked ctBlocked : Value}
    {nmContradiction qContradiction : Str} {NContradiction : Addr} {bsContradiction sbContradiction : List Value} {snContradiction : List Str} {abContradiction : Bool} {coContradiction : Option Bool} {ddContradiction : Option Addr} {w0Contradiction w1Contradiction w2Contradiction w3Contradiction w5Contradiction : Option Value}
    {odContradiction anContradiction : Option Addr} {slContradiction : Array (Option Value)} {ocContradiction kVContradiction dcContradiction pmContradiction cdContradiction ctContradiction : Value}
    {nmFull qFull : Str} {NFull : Addr} {bsFull sbFull : List Value} {snFull : List Str} {abFull : Bool} {coFull : Option Bool} {ddFull : Option Addr} {w0Full w1Full w2Full w3Full w5Full : Option Value}
    {odFull anFull : Option Addr} {slFull : Array (Option Value)} {ocFull kVFull dcFull pmFull cdFull ctFull : Value}
    {nmGap qGap : Str} {NGap : Addr} {bsGap sbGap : List Value} {snGap : List Str} {abGap : Bool} {coGap : Option Bool} {ddGap : Option Addr} {w0Gap w1Gap w2Gap w3Gap w5Gap : Option Value}
    {odGap anGap : Option Addr} {slGap : Array (Option Value)} {ocGap kVGap dcGap pmGap cdGap ctGap : Value}
    {nmKnown qKnown : Str} {NKnown : Addr} {bsKnown sbKnown : List Value} {snKnown : List Str} {abKnown : Bool} {coKnown : Option Bool} {ddKnown : Option Addr} {w0Known w1Known w2Known w3Known w5Known : Option Value}
    {odKnown anKnown : Option Addr} {slKnown : Array (Option Value)} {ocKnown kVKnown dcKnown pmKnown cdKnown ctKnown : Value}
    {nmNoNumber qNoNumber : Str} {NNoNumber : Addr} {bsNoNumber sbNoNumber : List Value} {snNoNumber : List Str} {abNoNumber : Bool} {coNoNumber : Option Bool} {ddNoNumber : Option Addr} {w0NoNumber w1NoNumber w2NoNumber w3NoNumber w5NoNumber : Option Value}
    {odNoNumber anNoNumber : Option Addr} {slNoNumber : Array (Option Value)} {ocNoNumber kVNoNumber dcNoNumber pmNoNumber cdNoNumber ctNoNumber : Value}
    {nmNoOperation qNoOperation : Str} {NNoOperation : Addr} {bsNoOperation sbNoOperation : List Value} {snNoOperation : List Str} {abNoOperation : Bool} {coNoOperation : Option Bool} {ddNoOperation : Option Addr} {w0NoOperation w1NoOperation w2NoOperation w3NoOperation w5NoOperation : Option Value}
    {odNoOperation anNoOperation : Option Addr} {slNoOperation : Array (Option Value)} {ocNoOperation kVNoOperation dcNoOperation pmNoOperation cdNoOperation ctNoOperation : Value}
    {nmNoPerson qNoPerson : Str} {NNoPerson : Addr} {bsNoPerson sbNoPerson : List Value} {snNoPerson : List Str} {abNoPerson : Bool} {coNoPerson : Option Bool} {ddNoPerson : Option Addr} {w0NoPerson w1NoPerson w2NoPerson w3NoPerson w5NoPerson : Option Value}
    {odNoPerson anNoPerson : Option Addr} {slNoPerson : Array (Option Value)} {ocNoPerson kVNoPerson dcNoPerson pmNoPerson cdNoPerson ctNoPerson : Value}
    {nmNoPlace qNoPlace : Str} {NNoPlace : Addr} {bsNoPlace sbNoPlace : List Value} {snNoPlace : List Str} {abNoPlace : Bool} {coNoPlace : Option Bool} {ddNoPlace : Option Addr} {w0NoPlace w1NoPlace w2NoPlace w3NoPlace w5NoPlace : Option Value}
    {odNoPlace anNoPlace : Option Addr} {slNoPlace : Array (Option Value)} {ocNoPlace kVNoPlace dcNoPlace pmNoPlace cdNoPlace ctNoPlace : Value}
    {nmOtherPeople qOtherPeople : Str} {NOtherPeople : Addr} {bsOtherPeople sbOtherPeople : List Value} {snOtherPeople : List Str} {abOtherPeople : Bool} {coOtherPeople : Option Bool} {ddOtherPeople : Option Addr} {w0OtherPeople w1OtherPeople w2OtherPeople w3OtherPeople w5OtherPeople : Option Value}
    {odOtherPeople anOtherPeople : Option Addr} {slOtherPeople : Array (Option Value)} {ocOtherPeople kVOtherPeople dcOtherPeople pmOtherPeople cdOtherPeople ctOtherPeople : Value}
    {nmTooMany qTooMany : Str} {NTooMany : Addr} {bsTooMany sbTooMany : List Value} {snTooMany : List Str} {abTooMany : Bool} {coTooMany : Option Bool} {ddTooMany : Option Addr} {w0TooMany w1TooMany w2TooMany w3TooMany w5TooMany : Option Value}
    {odTooMany anTooMany : Option Addr} {slTooMany : Array (Option Value)} {ocTooMany kVTooMany dcTooMany pmTooMany cdTooMany ctTooMany : Value}
    (a0 : PySem.W.nsIn K mainGlobals "_law_cell_at" = some (some (.ref f0)))
    (l0 : K.lookup f0 = some ⟨oc0, od0, .func (PySem.W.fnOf "_law_cell_at" "_law_cell_at" (defArgs sCell) (defBody sCell) (defScope sCell) .none kV0 dc0 pm0 an0 cd0 ct0), sl0⟩)
    (c0 : PySem.W.codeIn K cd0 "_law_cell_at" = true)
    (k0 : PySem.W.keepIn K (.ref f0) = true)
    (a1 : PySem.W.nsIn K mainGlobals "_law_box" = some (some (.ref f1)))
    (l1 : K.lookup f1 = some ⟨oc1, od1, .func (PySem.W.fnOf "_law_box" "_law_box" (defArgs sBox) (defBody sBox) (defScope sBox) .none kV1 dc1 pm1 an1 cd1 ct1), sl1⟩)
    (c1 : PySem.W.codeIn K cd1 "_law_box" = true)
    (k1 : PySem.W.keepIn K (.ref f1) = true)
    (a2 : PySem.W.nsIn K mainGlobals "_law_take" = some (some (.ref f2)))
    (l2 : K.lookup f2 = some ⟨oc2, od2, .func (PySem.W.fnOf "_law_take" "_law_take" (defArgs sTake) (defBody sTake) (defScope sTake) .none kV2 dc2 pm2 an2 cd2 ct2), sl2⟩)
    (c2 : PySem.W.codeIn K cd2 "_law_take" = true)
    (k2 : PySem.W.keepIn K (.ref f2) = true)
    (a3 : PySem.W.nsIn K mainGlobals "_law_same" = some (some (.ref f3)))
    (l3 : K.lookup f3 = some ⟨oc3, od3, .func (PySem.W.fnOf "_law_same" "_law_same" (defArgs sSame) (defBody sSame) (defScope sSame) .none kV3 dc3 pm3 an3 cd3 ct3), sl3⟩)
    (c3 : PySem.W.codeIn K cd3 "_law_same" = true)
    (k3 : PySem.W.keepIn K (.ref f3) = true)
    (a4 : PySem.W.nsIn K mainGlobals "_law_flags" = some (some (.ref f4)))
    (l4 : K.lookup f4 = some ⟨oc4, od4, .func (PySem.W.fnOf "_law_flags" "_law_flags" (defArgs sFlags) (defBody sFlags) (defScope sFlags) .none kV4 dc4 pm4 an4 cd4 ct4), sl4⟩)
    (c4 : PySem.W.codeIn K cd4 "_law_flags" = true)
    (k4 : PySem.W.keepIn K (.ref f4) = true)
    (a5 : PySem.W.nsIn K mainGlobals "_law_one_right" = some (some (.ref f5)))
    (l5 : K.lookup f5 = some ⟨oc5, od5, .func (PySem.W.fnOf "_law_one_right" "_law_one_right" (defArgs sOne) (defBody sOne) (defScope sOne) .none kV5 dc5 pm5 an5 cd5 ct5), sl5⟩)
    (c5 : PySem.W.codeIn K cd5 "_law_one_right" = true)
    (k5 : PySem.W.keepIn K (.ref f5) = true)
    (a6 : PySem.W.nsIn K mainGlobals "_law_right" = some (some (.ref f6)))
    (l6 : K.lookup f6 = some ⟨oc6, od6, .func (PySem.W.fnOf "_law_right" "_law_right" (defArgs sRight) (defBody sRight) (defScope sRight) .none kV6 dc6 pm6 an6 cd6 ct6), sl6⟩)
    (c6 : PySem.W.codeIn K cd6 "_law_right" = true)
    (k6 : PySem.W.keepIn K (.ref f6) = true)
    (a7 : PySem.W.nsIn K mainGlobals "law" = some (some (.ref f7)))
    (l7 : K.lookup f7 = some ⟨oc7, od7, .func (PySem.W.fnOf "law" "law" (defArgs sLaw) (defBody sLaw) (defScope sLaw) .none kV7 dc7 pm7 an7 cd7 ct7), sl7⟩)
    (c7 : PySem.W.codeIn K cd7 "law" = true)
    (k7 : PySem.W.keepIn K (.ref f7) = true)
    (gBadLine : PySem.W.nsIn K mainGlobals "BadLine" = some (some (.ref CBadLine)))
    (xBadLine : K.lookup CBadLine = some (excClassObj nmBadLine qBadLine CBadLine NBadLine bsBadLine tlValueError true snBadLine sbBadLine abBadLine coBadLine ddBadLine w0BadLine w1BadLine w2BadLine w3BadLine w5BadLine "ValueError.__new__"))
    (saBadLine : PySem.W.findIn K (.ref CBadLine) "__setattr__" = some (some (.builtin "object.__setattr__")))
    (gaBadLine : PySem.W.findIn K (.ref CBadLine) "__getattribute__" = some (some (.builtin "BaseException.__getattribute__")))
    (ggBadLine : PySem.W.findIn K (.ref CBadLine) "__getattr__" = some none)
    (kCBadLine : PySem.W.keepIn K (.ref CBadLine) = true)
    (caBadLine : PySem.W.findIn K (.ref CBadLine) "__class__" = some (some (.builtin "object.__class__")))
    (tyBadLine : PySem.W.typeIn K (.ref CBadLine) = some (.type "type"))
    (iCBadLine : PySem.W.findIn K (.ref CBadLine) "__init__" = some (some (.ref iBadLine)))
    (tIBadLine : PySem.W.typeIn K (.ref iBadLine) = some (.type "function"))
    (lIBadLine : K.lookup iBadLine = some ⟨ocBadLine, odBadLine, .func (PySem.W.fnOf "__init__" "BadLine.__init__" (defArgs sBadLine) (defBody sBadLine) (defScope sBadLine) .none kVBadLine dcBadLine pmBadLine anBadLine cdBadLine ctBadLine), slBadLine⟩)
    (cIBadLine : PySem.W.codeIn K cdBadLine "BadLine.__init__" = true)
    (kIBadLine : PySem.W.keepIn K (.ref iBadLine) = true)
    (noBadLine : PySem.W.findIn K (.ref CBadLine) "number" = some none)
    (gBadText : PySem.W.nsIn K mainGlobals "BadText" = some (some (.ref CBadText)))
    (xBadText : K.lookup CBadText = some (excClassObj nmBadText qBadText CBadText NBadText bsBadText tlValueError true snBadText sbBadText abBadText coBadText ddBadText w0BadText w1BadText w2BadText w3BadText w5BadText "ValueError.__new__"))
    (saBadText : PySem.W.findIn K (.ref CBadText) "__setattr__" = some (some (.builtin "object.__setattr__")))
    (gaBadText : PySem.W.findIn K (.ref CBadText) "__getattribute__" = some (some (.builtin "BaseException.__getattribute__")))
    (ggBadText : PySem.W.findIn K (.ref CBadText) "__getattr__" = some none)
    (kCBadText : PySem.W.keepIn K (.ref CBadText) = true)
    (caBadText : PySem.W.findIn K (.ref CBadText) "__class__" = some (some (.builtin "object.__class__")))
    (tyBadText : PySem.W.typeIn K (.ref CBadText) = some (.type "type"))
    (iCBadText : PySem.W.findIn K (.ref CBadText) "__init__" = some (some (.ref iBadText)))
    (tIBadText : PySem.W.typeIn K (.ref iBadText) = some (.type "function"))
    (lIBadText : K.lookup iBadText = some ⟨ocBadText, odBadText, .func (PySem.W.fnOf "__init__" "BadText.__init__" (defArgs sBadText) (defBody sBadText) (defScope sBadText) .none kVBadText dcBadText pmBadText anBadText cdBadText ctBadText), slBadText⟩)
    (cIBadText : PySem.W.codeIn K cdBadText "BadText.__init__" = true)
    (kIBadText : PySem.W.keepIn K (.ref iBadText) = true)
    (noBadText : PySem.W.findIn K (.ref CBadText) "text" = some none)
    (gBarred : PySem.W.nsIn K mainGlobals "Barred" = some (some (.ref CBarred)))
    (xBarred : K.lookup CBarred = some (excClassObj nmBarred qBarred CBarred NBarred bsBarred tlRuntimeError true snBarred sbBarred abBarred coBarred ddBarred w0Barred w1Barred w2Barred w3Barred w5Barred "RuntimeError.__new__"))
    (saBarred : PySem.W.findIn K (.ref CBarred) "__setattr__" = some (some (.builtin "object.__setattr__")))
    (gaBarred : PySem.W.findIn K (.ref CBarred) "__getattribute__" = some (some (.builtin "BaseException.__getattribute__")))
    (ggBarred : PySem.W.findIn K (.ref CBarred) "__getattr__" = some none)
    (kCBarred : PySem.W.keepIn K (.ref CBarred) = true)
    (caBarred : PySem.W.findIn K (.ref CBarred) "__class__" = some (some (.builtin "object.__class__")))
    (tyBarred : PySem.W.typeIn K (.ref CBarred) = some (.type "type"))
    (iCBarred : PySem.W.findIn K (.ref CBarred) "__init__" = some (some (.ref iBarred)))
    (tIBarred : PySem.W.typeIn K (.ref iBarred) = some (.type "function"))
    (lIBarred : K.lookup iBarred = some ⟨ocBarred, odBarred, .func (PySem.W.fnOf "__init__" "Barred.__init__" (defArgs sBarred) (defBody sBarred) (defScope sBarred) .none kVBarred dcBarred pmBarred anBarred cdBarred ctBarred), slBarred⟩)
    (cIBarred : PySem.W.codeIn K cdBarred "Barred.__init__" = true)
    (kIBarred : PySem.W.keepIn K (.ref iBarred) = true)
    (noBarred : PySem.W.findIn K (.ref CBarred) "height" = some none)
    (gBlocked : PySem.W.nsIn K mainGlobals "Blocked" = some (some (.ref CBlocked)))
    (xBlocked : K.lookup CBlocked = some (excClassObj nmBlocked qBlocked CBlocked NBlocked bsBlocked tlRuntimeError true snBlocked sbBlocked abBlocked coBlocked ddBlocked w0Blocked w1Blocked w2Blocked w3Blocked w5Blocked "RuntimeError.__new__"))
    (saBlocked : PySem.W.findIn K (.ref CBlocked) "__setattr__" = some (some (.builtin "object.__setattr__")))
    (gaBlocked : PySem.W.findIn K (.ref CBlocked) "__getattribute__" = some (some (.builtin "BaseException.__getattribute__")))
    (ggBlocked : PySem.W.findIn K (.ref CBlocked) "__getattr__" = some none)
    (kCBlocked : PySem.W.keepIn K (.ref CBlocked) = true)
    (caBlocked : PySem.W.findIn K (.ref CBlocked) "__class__" = some (some (.builtin "object.__class__")))
    (tyBlocked : PySem.W.typeIn K (.ref CBlocked) = some (.type "type"))
    (iCBlocked : PySem.W.findIn K (.ref CBlocked) "__init__" = some (some (.ref iBlocked)))
    (tIBlocked : PySem.W.typeIn K (.ref iBlocked) = some (.type "function"))
    (lIBlocked : K.lookup iBlocked = some ⟨ocBlocked, odBlocked, .func (PySem.W.fnOf "__init__" "Blocked.__init__" (defArgs sBlocked) (defBody sBlocked) (defScope sBlocked) .none kVBlocked dcBlocked pmBlocked anBlocked cdBlocked ctBlocked), slBlocked⟩)
    (cIBlocked : PySem.W.codeIn K cdBlocked "Blocked.__init__" = true)
    (kIBlocked : PySem.W.keepIn K (.ref iBlocked) = true)
    (noBlocked : PySem.W.findIn K (.ref CBlocked) "pair" = some none)
    (gContradiction : PySem.W.nsIn K mainGlobals "Contradiction" = some (some (.ref CContradiction)))
    (xContradiction : K.lookup CContradiction = some (excClassObj nmContradiction qContradiction CContradiction NContradiction bsContradiction tlValueError true snContradiction sbContradiction abContradiction coContradiction ddContradiction w0Contradiction w1Contradiction w2Contradiction w3Contradiction w5Contradiction "ValueError.__new__"))
    (saContradiction : PySem.W.findIn K (.ref CContradiction) "__setattr__" = some (some (.builtin "object.__setattr__")))
    (gaContradiction : PySem.W.findIn K (.ref CContradiction) "__getattribute__" = some (some (.builtin "BaseException.__getattribute__")))
    (ggContradiction : PySem.W.findIn K (.ref CContradiction) "__getattr__" = some none)
    (kCContradiction : PySem.W.keepIn K (.ref CContradiction) = true)
    (caContradiction : PySem.W.findIn K (.ref CContradiction) "__class__" = some (some (.builtin "object.__class__")))
    (tyContradiction : PySem.W.typeIn K (.ref CContradiction) = some (.type "type"))
    (iCContradiction : PySem.W.findIn K (.ref CContradiction) "__init__" = some (some (.ref iContradiction)))
    (tIContradiction : PySem.W.typeIn K (.ref iContradiction) = some (.type "function"))
    (lIContradiction : K.lookup iContradiction = some ⟨ocContradiction, odContradiction, .func (PySem.W.fnOf "__init__" "Contradiction.__init__" (defArgs sContradiction) (defBody sContradiction) (defScope sContradiction) .none kVContradiction dcContradiction pmContradiction anContradiction cdContradiction ctContradiction), slContradiction⟩)
    (cIContradiction : PySem.W.codeIn K cdContradiction "Contradiction.__init__" = true)
    (kIContradiction : PySem.W.keepIn K (.ref iContradiction) = true)
    (noContradiction : PySem.W.findIn K (.ref CContradiction) "cycle" = some none)
    (gFull : PySem.W.nsIn K mainGlobals "Full" = some (some (.ref CFull)))
    (xFull : K.lookup CFull = some (excClassObj nmFull qFull CFull NFull bsFull tlOverflowError true snFull sbFull abFull coFull ddFull w0Full w1Full w2Full w3Full w5Full "OverflowError.__new__"))
    (saFull : PySem.W.findIn K (.ref CFull) "__setattr__" = some (some (.builtin "object.__setattr__")))
    (gaFull : PySem.W.findIn K (.ref CFull) "__getattribute__" = some (some (.builtin "BaseException.__getattribute__")))
    (ggFull : PySem.W.findIn K (.ref CFull) "__getattr__" = some none)
    (kCFull : PySem.W.keepIn K (.ref CFull) = true)
    (caFull : PySem.W.findIn K (.ref CFull) "__class__" = some (some (.builtin "object.__class__")))
    (tyFull : PySem.W.typeIn K (.ref CFull) = some (.type "type"))
    (iCFull : PySem.W.findIn K (.ref CFull) "__init__" = some (some (.ref iFull)))
    (tIFull : PySem.W.typeIn K (.ref iFull) = some (.type "function"))
    (lIFull : K.lookup iFull = some ⟨ocFull, odFull, .func (PySem.W.fnOf "__init__" "Full.__init__" (defArgs sFull) (defBody sFull) (defScope sFull) .none kVFull dcFull pmFull anFull cdFull ctFull), slFull⟩)
    (cIFull : PySem.W.codeIn K cdFull "Full.__init__" = true)
    (kIFull : PySem.W.keepIn K (.ref iFull) = true)
    (noFull : PySem.W.findIn K (.ref CFull) "many" = some none)
    (gGap : PySem.W.nsIn K mainGlobals "Gap" = some (some (.ref CGap)))
    (xGap : K.lookup CGap = some (excClassObj nmGap qGap CGap NGap bsGap tlValueError true snGap sbGap abGap coGap ddGap w0Gap w1Gap w2Gap w3Gap w5Gap "ValueError.__new__"))
    (saGap : PySem.W.findIn K (.ref CGap) "__setattr__" = some (some (.builtin "object.__setattr__")))
    (gaGap : PySem.W.findIn K (.ref CGap) "__getattribute__" = some (some (.builtin "BaseException.__getattribute__")))
    (ggGap : PySem.W.findIn K (.ref CGap) "__getattr__" = some none)
    (kCGap : PySem.W.keepIn K (.ref CGap) = true)
    (caGap : PySem.W.findIn K (.ref CGap) "__class__" = some (some (.builtin "object.__class__")))
    (tyGap : PySem.W.typeIn K (.ref CGap) = some (.type "type"))
    (iCGap : PySem.W.findIn K (.ref CGap) "__init__" = some (some (.ref iGap)))
    (tIGap : PySem.W.typeIn K (.ref iGap) = some (.type "function"))
    (lIGap : K.lookup iGap = some ⟨ocGap, odGap, .func (PySem.W.fnOf "__init__" "Gap.__init__" (defArgs sGap) (defBody sGap) (defScope sGap) .none kVGap dcGap pmGap anGap cdGap ctGap), slGap⟩)
    (cIGap : PySem.W.codeIn K cdGap "Gap.__init__" = true)
    (kIGap : PySem.W.keepIn K (.ref iGap) = true)
    (noGap : PySem.W.findIn K (.ref CGap) "index" = some none)
    (gKnown : PySem.W.nsIn K mainGlobals "Known" = some (some (.ref CKnown)))
    (xKnown : K.lookup CKnown = some (excClassObj nmKnown qKnown CKnown NKnown bsKnown tlValueError true snKnown sbKnown abKnown coKnown ddKnown w0Known w1Known w2Known w3Known w5Known "ValueError.__new__"))
    (saKnown : PySem.W.findIn K (.ref CKnown) "__setattr__" = some (some (.builtin "object.__setattr__")))
    (gaKnown : PySem.W.findIn K (.ref CKnown) "__getattribute__" = some (some (.builtin "BaseException.__getattribute__")))
    (ggKnown : PySem.W.findIn K (.ref CKnown) "__getattr__" = some none)
    (kCKnown : PySem.W.keepIn K (.ref CKnown) = true)
    (caKnown : PySem.W.findIn K (.ref CKnown) "__class__" = some (some (.builtin "object.__class__")))
    (tyKnown : PySem.W.typeIn K (.ref CKnown) = some (.type "type"))
    (iCKnown : PySem.W.findIn K (.ref CKnown) "__init__" = some (some (.ref iKnown)))
    (tIKnown : PySem.W.typeIn K (.ref iKnown) = some (.type "function"))
    (lIKnown : K.lookup iKnown = some ⟨ocKnown, odKnown, .func (PySem.W.fnOf "__init__" "Known.__init__" (defArgs sKnown) (defBody sKnown) (defScope sKnown) .none kVKnown dcKnown pmKnown anKnown cdKnown ctKnown), slKnown⟩)
    (cIKnown : PySem.W.codeIn K cdKnown "Known.__init__" = true)
    (kIKnown : PySem.W.keepIn K (.ref iKnown) = true)
    (noKnown : PySem.W.findIn K (.ref CKnown) "height" = some none)
    (gNoNumber : PySem.W.nsIn K mainGlobals "NoNumber" = some (some (.ref CNoNumber)))
    (xNoNumber : K.lookup CNoNumber = some (excClassObj nmNoNumber qNoNumber CNoNumber NNoNumber bsNoNumber tlLookupError true snNoNumber sbNoNumber abNoNumber coNoNumber ddNoNumber w0NoNumber w1NoNumber w2NoNumber w3NoNumber w5NoNumber "LookupError.__new__"))
    (saNoNumber : PySem.W.findIn K (.ref CNoNumber) "__setattr__" = some (some (.builtin "object.__setattr__")))
    (gaNoNumber : PySem.W.findIn K (.ref CNoNumber) "__getattribute__" = some (some (.builtin "BaseException.__getattribute__")))
    (ggNoNumber : PySem.W.findIn K (.ref CNoNumber) "__getattr__" = some none)
    (kCNoNumber : PySem.W.keepIn K (.ref CNoNumber) = true)
    (caNoNumber : PySem.W.findIn K (.ref CNoNumber) "__class__" = some (some (.builtin "object.__class__")))
    (tyNoNumber : PySem.W.typeIn K (.ref CNoNumber) = some (.type "type"))
    (iCNoNumber : PySem.W.findIn K (.ref CNoNumber) "__init__" = some (some (.ref iNoNumber)))
    (tINoNumber : PySem.W.typeIn K (.ref iNoNumber) = some (.type "function"))
    (lINoNumber : K.lookup iNoNumber = some ⟨ocNoNumber, odNoNumber, .func (PySem.W.fnOf "__init__" "NoNumber.__init__" (defArgs sNoNumber) (defBody sNoNumber) (defScope sNoNumber) .none kVNoNumber dcNoNumber pmNoNumber anNoNumber cdNoNumber ctNoNumber), slNoNumber⟩)
    (cINoNumber : PySem.W.codeIn K cdNoNumber "NoNumber.__init__" = true)
    (kINoNumber : PySem.W.keepIn K (.ref iNoNumber) = true)
    (noNoNumber : PySem.W.findIn K (.ref CNoNumber) "number" = some none)
    (gNoOperation : PySem.W.nsIn K mainGlobals "NoOperation" = some (some (.ref CNoOperation)))
    (xNoOperation : K.lookup CNoOperation = some (excClassObj nmNoOperation qNoOperation CNoOperation NNoOperation bsNoOperation tlLookupError true snNoOperation sbNoOperation abNoOperation coNoOperation ddNoOperation w0NoOperation w1NoOperation w2NoOperation w3NoOperation w5NoOperation "LookupError.__new__"))
    (saNoOperation : PySem.W.findIn K (.ref CNoOperation) "__setattr__" = some (some (.builtin "object.__setattr__")))
    (gaNoOperation : PySem.W.findIn K (.ref CNoOperation) "__getattribute__" = some (some (.builtin "BaseException.__getattribute__")))
    (ggNoOperation : PySem.W.findIn K (.ref CNoOperation) "__getattr__" = some none)
    (kCNoOperation : PySem.W.keepIn K (.ref CNoOperation) = true)
    (caNoOperation : PySem.W.findIn K (.ref CNoOperation) "__class__" = some (some (.builtin "object.__class__")))
    (tyNoOperation : PySem.W.typeIn K (.ref CNoOperation) = some (.type "type"))
    (iCNoOperation : PySem.W.findIn K (.ref CNoOperation) "__init__" = some (some (.ref iNoOperation)))
    (tINoOperation : PySem.W.typeIn K (.ref iNoOperation) = some (.type "function"))
    (lINoOperation : K.lookup iNoOperation = some ⟨ocNoOperation, odNoOperation, .func (PySem.W.fnOf "__init__" "NoOperation.__init__" (defArgs sNoOperation) (defBody sNoOperation) (defScope sNoOperation) .none kVNoOperation dcNoOperation pmNoOperation anNoOperation cdNoOperation ctNoOperation), slNoOperation⟩)
    (cINoOperation : PySem.W.codeIn K cdNoOperation "NoOperation.__init__" = true)
    (kINoOperation : PySem.W.keepIn K (.ref iNoOperation) = true)
    (noNoOperation : PySem.W.findIn K (.ref CNoOperation) "many" = some none)
    (gNoPerson : PySem.W.nsIn K mainGlobals "NoPerson" = some (some (.ref CNoPerson)))
    (xNoPerson : K.lookup CNoPerson = some (excClassObj nmNoPerson qNoPerson CNoPerson NNoPerson bsNoPerson tlLookupError true snNoPerson sbNoPerson abNoPerson coNoPerson ddNoPerson w0NoPerson w1NoPerson w2NoPerson w3NoPerson w5NoPerson "LookupError.__new__"))
    (saNoPerson : PySem.W.findIn K (.ref CNoPerson) "__setattr__" = some (some (.builtin "object.__setattr__")))
    (gaNoPerson : PySem.W.findIn K (.ref CNoPerson) "__getattribute__" = some (some (.builtin "BaseException.__getattribute__")))
    (ggNoPerson : PySem.W.findIn K (.ref CNoPerson) "__getattr__" = some none)
    (kCNoPerson : PySem.W.keepIn K (.ref CNoPerson) = true)
    (caNoPerson : PySem.W.findIn K (.ref CNoPerson) "__class__" = some (some (.builtin "object.__class__")))
    (tyNoPerson : PySem.W.typeIn K (.ref CNoPerson) = some (.type "type"))
    (iCNoPerson : PySem.W.findIn K (.ref CNoPerson) "__init__" = some (some (.ref iNoPerson)))
    (tINoPerson : PySem.W.typeIn K (.ref iNoPerson) = some (.type "function"))
    (lINoPerson : K.lookup iNoPerson = some ⟨ocNoPerson, odNoPerson, .func (PySem.W.fnOf "__init__" "NoPerson.__init__" (defArgs sNoPerson) (defBody sNoPerson) (defScope sNoPerson) .none kVNoPerson dcNoPerson pmNoPerson anNoPerson cdNoPerson ctNoPerson), slNoPerson⟩)
    (cINoPerson : PySem.W.codeIn K cdNoPerson "NoPerson.__init__" = true)
    (kINoPerson : PySem.W.keepIn K (.ref iNoPerson) = true)
    (noNoPerson : PySem.W.findIn K (.ref CNoPerson) "height" = some none)
    (gNoPlace : PySem.W.nsIn K mainGlobals "NoPlace" = some (some (.ref CNoPlace)))
    (xNoPlace : K.lookup CNoPlace = some (excClassObj nmNoPlace qNoPlace CNoPlace NNoPlace bsNoPlace tlLookupError true snNoPlace sbNoPlace abNoPlace coNoPlace ddNoPlace w0NoPlace w1NoPlace w2NoPlace w3NoPlace w5NoPlace "LookupError.__new__"))
    (saNoPlace : PySem.W.findIn K (.ref CNoPlace) "__setattr__" = some (some (.builtin "object.__setattr__")))
    (gaNoPlace : PySem.W.findIn K (.ref CNoPlace) "__getattribute__" = some (some (.builtin "BaseException.__getattribute__")))
    (ggNoPlace : PySem.W.findIn K (.ref CNoPlace) "__getattr__" = some none)
    (kCNoPlace : PySem.W.keepIn K (.ref CNoPlace) = true)
    (caNoPlace : PySem.W.findIn K (.ref CNoPlace) "__class__" = some (some (.builtin "object.__class__")))
    (tyNoPlace : PySem.W.typeIn K (.ref CNoPlace) = some (.type "type"))
    (iCNoPlace : PySem.W.findIn K (.ref CNoPlace) "__init__" = some (some (.ref iNoPlace)))
    (tINoPlace : PySem.W.typeIn K (.ref iNoPlace) = some (.type "function"))
    (lINoPlace : K.lookup iNoPlace = some ⟨ocNoPlace, odNoPlace, .func (PySem.W.fnOf "__init__" "NoPlace.__init__" (defArgs sNoPlace) (defBody sNoPlace) (defScope sNoPlace) .none kVNoPlace dcNoPlace pmNoPlace anNoPlace cdNoPlace ctNoPlace), slNoPlace⟩)
    (cINoPlace : PySem.W.codeIn K cdNoPlace "NoPlace.__init__" = true)
    (kINoPlace : PySem.W.keepIn K (.ref iNoPlace) = true)
    (noNoPlace : PySem.W.findIn K (.ref CNoPlace) "place" = some none)
    (gOtherPeople : PySem.W.nsIn K mainGlobals "OtherPeople" = some (some (.ref COtherPeople)))
    (xOtherPeople : K.lookup COtherPeople = some (excClassObj nmOtherPeople qOtherPeople COtherPeople NOtherPeople bsOtherPeople tlValueError true snOtherPeople sbOtherPeople abOtherPeople coOtherPeople ddOtherPeople w0OtherPeople w1OtherPeople w2OtherPeople w3OtherPeople w5OtherPeople "ValueError.__new__"))
    (saOtherPeople : PySem.W.findIn K (.ref COtherPeople) "__setattr__" = some (some (.builtin "object.__setattr__")))
    (gaOtherPeople : PySem.W.findIn K (.ref COtherPeople) "__getattribute__" = some (some (.builtin "BaseException.__getattribute__")))
    (ggOtherPeople : PySem.W.findIn K (.ref COtherPeople) "__getattr__" = some none)
    (kCOtherPeople : PySem.W.keepIn K (.ref COtherPeople) = true)
    (caOtherPeople : PySem.W.findIn K (.ref COtherPeople) "__class__" = some (some (.builtin "object.__class__")))
    (tyOtherPeople : PySem.W.typeIn K (.ref COtherPeople) = some (.type "type"))
    (iCOtherPeople : PySem.W.findIn K (.ref COtherPeople) "__init__" = some (some (.ref iOtherPeople)))
    (tIOtherPeople : PySem.W.typeIn K (.ref iOtherPeople) = some (.type "function"))
    (lIOtherPeople : K.lookup iOtherPeople = some ⟨ocOtherPeople, odOtherPeople, .func (PySem.W.fnOf "__init__" "OtherPeople.__init__" (defArgs sOtherPeople) (defBody sOtherPeople) (defScope sOtherPeople) .none kVOtherPeople dcOtherPeople pmOtherPeople anOtherPeople cdOtherPeople ctOtherPeople), slOtherPeople⟩)
    (cIOtherPeople : PySem.W.codeIn K cdOtherPeople "OtherPeople.__init__" = true)
    (kIOtherPeople : PySem.W.keepIn K (.ref iOtherPeople) = true)
    (gTooMany : PySem.W.nsIn K mainGlobals "TooMany" = some (some (.ref CTooMany)))
    (xTooMany : K.lookup CTooMany = some (excClassObj nmTooMany qTooMany CTooMany NTooMany bsTooMany tlOverflowError true snTooMany sbTooMany abTooMany coTooMany ddTooMany w0TooMany w1TooMany w2TooMany w3TooMany w5TooMany "OverflowError.__new__"))
    (saTooMany : PySem.W.findIn K (.ref CTooMany) "__setattr__" = some (some (.builtin "object.__setattr__")))
    (gaTooMany : PySem.W.findIn K (.ref CTooMany) "__getattribute__" = some (some (.builtin "BaseException.__getattribute__")))
    (ggTooMany : PySem.W.findIn K (.ref CTooMany) "__getattr__" = some none)
    (kCTooMany : PySem.W.keepIn K (.ref CTooMany) = true)
    (caTooMany : PySem.W.findIn K (.ref CTooMany) "__class__" = some (some (.builtin "object.__class__")))
    (tyTooMany : PySem.W.typeIn K (.ref CTooMany) = some (.type "type"))
    (iCTooMany : PySem.W.findIn K (.ref CTooMany) "__init__" = some (some (.ref iTooMany)))
    (tITooMany : PySem.W.typeIn K (.ref iTooMany) = some (.type "function"))
    (lITooMany : K.lookup iTooMany = some ⟨ocTooMany, odTooMany, .func (PySem.W.fnOf "__init__" "TooMany.__init__" (defArgs sTooMany) (defBody sTooMany) (defScope sTooMany) .none kVTooMany dcTooMany pmTooMany anTooMany cdTooMany ctTooMany), slTooMany⟩)
    (cITooMany : PySem.W.codeIn K cdTooMany "TooMany.__init__" = true)
    (kITooMany : PySem.W.keepIn K (.ref iTooMany) = true)
    (noTooMany : PySem.W.findIn K (.ref CTooMany) "many" = some none)
    (hsp : PySem.W.specialIn K (.builtin "object.__class__") "__get__" = some (some (.builtin "getset_descriptor.__get__")))
    (htk : PySem.W.takesIn K (.builtin "object.__class__") = some true)
    (zisinstance : PySem.W.nsIn K mainGlobals "isinstance" = some none)
    (zlist : PySem.W.nsIn K mainGlobals "list" = some none)
    (ztuple : PySem.W.nsIn K mainGlobals "tuple" = some none)
    (zlen : PySem.W.nsIn K mainGlobals "len" = some none)
    (zall : PySem.W.nsIn K mainGlobals "all" = some none)
    (zzip : PySem.W.nsIn K mainGlobals "zip" = some none)
    (zbool : PySem.W.nsIn K mainGlobals "bool" = some none)
    (zstr : PySem.W.nsIn K mainGlobals "str" = some none)
    (zint : PySem.W.nsIn K mainGlobals "int" = some none)
    (zValueError : PySem.W.nsIn K mainGlobals "ValueError" = some none)
    (zLookupError : PySem.W.nsIn K mainGlobals "LookupError" = some none)
    (zRuntimeError : PySem.W.nsIn K mainGlobals "RuntimeError" = some none)
    (zOverflowError : PySem.W.nsIn K mainGlobals "OverflowError" = some none)
    (zIndexError : PySem.W.nsIn K mainGlobals "IndexError" = some none)
    (zKeyError : PySem.W.nsIn K mainGlobals "KeyError" = some none)
    (zNotImplementedError : PySem.W.nsIn K mainGlobals "NotImplementedError" = some none)
    (zrange : PySem.W.nsIn K mainGlobals "range" = some none)
    (zmin : PySem.W.nsIn K mainGlobals "min" = some none)
    (zabs : PySem.W.nsIn K mainGlobals "abs" = some none)
    (zM1 : PySem.W.nsIn K mainGlobals "MOST" = some (some (.int 300 tM1)))
    (zM2 : PySem.W.nsIn K mainGlobals "MOST_SEARCHED" = some (some (.int 2000 tM2)))
    (nd : [CBadLine, CBadText, CBarred, CBlocked, CContradiction, CFull, CGap, CKnown, CNoNumber, CNoOperation, CNoPerson, CNoPlace, COtherPeople, CTooMany].Nodup) :
    ∃ fd : FuncData, (∀ (s : Shared) (v : Value), BindsTo s fd ⟨[v], []⟩ [("_law_script", v)]) ∧ ∀ base : Heap, K.In base → base.Ns mainGlobals mg → FnOk l.prog w K mg base CX0 5 fa fd ["_law_script"] (spLaw K) := by
  have e := hfa.symm.trans (PySem.W.mg_of X G a7)
  cases e
  have F0 := fun_mk (st := sCell) l0 c0 k0
  have m0 := PySem.W.mg_of X G a0
  have F1 := fun_mk (st := sBox) l1 c1 k1
  have m1 := PySem.W.mg_of X G a1
  have F2 := fun_mk (st := sTake) l2 c2 k2
  have m2 := PySem.W.mg_of X G a2
  have F3 := fun_mk (st := sSame) l3 c3 k3
  have m3 := PySem.W.mg_of X G a3
  have F4 := fun_mk (st := sFlags) l4 c4 k4
  have m4 := PySem.W.mg_of X G a4
  have F5 := fun_mk (st := sOne) l5 c5 k5
  have m5 := PySem.W.mg_of X G a5
  have F6 := fun_mk (st := sRight) l6 c6 k6
  have m6 := PySem.W.mg_of X G a6
  have F7 := fun_mk (st := sLaw) l7 c7 k7
  have m7 := PySem.W.mg_of X G a7
  have GBadLine := fun_mk (st := sBadLine) lIBadLine cIBadLine kIBadLine
  have XBadLine : Cl K CBadLine 0 := cl_mk 0 xBadLine saBadLine gaBadLine ggBadLine kCBadLine caBadLine tyBadLine hsp htk
  have GBadText := fun_mk (st := sBadText) lIBadText cIBadText kIBadText
  have XBadText : Cl K CBadText 0 := cl_mk 0 xBadText saBadText gaBadText ggBadText kCBadText caBadText tyBadText hsp htk
  have GBarred := fun_mk (st := sBarred) lIBarred cIBarred kIBarred
  have XBarred : Cl K CBarred 2 := cl_mk 2 xBarred saBarred gaBarred ggBarred kCBarred caBarred tyBarred hsp htk
  have GBlocked := fun_mk (st := sBlocked) lIBlocked cIBlocked kIBlocked
  have XBlocked : Cl K CBlocked 2 := cl_mk 2 xBlocked saBlocked gaBlocked ggBlocked kCBlocked caBlocked tyBlocked hsp htk
  have GContradiction := fun_mk (st := sContradiction) lIContradiction cIContradiction kIContradiction
  have XContradiction : Cl K CContradiction 0 := cl_mk 0 xContradiction saContradiction gaContradiction ggContradiction kCContradiction caContradiction tyContradiction hsp htk
  have GFull := fun_mk (st := sFull) lIFull cIFull kIFull
  have XFull : Cl K CFull 3 := cl_mk 3 xFull saFull gaFull ggFull kCFull caFull tyFull hsp htk
  have GGap := fun_mk (st := sGap) lIGap cIGap kIGap
  have XGap : Cl K CGap 0 := cl_mk 0 xGap saGap gaGap ggGap kCGap caGap tyGap hsp htk
  have GKnown := fun_mk (st := sKnown) lIKnown cIKnown kIKnown
  have XKnown : Cl K CKnown 0 := cl_mk 0 xKnown saKnown gaKnown ggKnown kCKnown caKnown tyKnown hsp htk
  have GNoNumber := fun_mk (st := sNoNumber) lINoNumber cINoNumber kINoNumber
  have XNoNumber : Cl K CNoNumber 1 := cl_mk 1 xNoNumber saNoNumber gaNoNumber ggNoNumber kCNoNumber caNoNumber tyNoNumber hsp htk
  have GNoOperation := fun_mk (st := sNoOperation) lINoOperation cINoOperation kINoOperation
  have XNoOperation : Cl K CNoOperation 1 := cl_mk 1 xNoOperation saNoOperation gaNoOperation ggNoOperation kCNoOperation caNoOperation tyNoOperation hsp htk
  have GNoPerson := fun_mk (st := sNoPerson) lINoPerson cINoPerson kINoPerson
  have XNoPerson : Cl K CNoPerson 1 := cl_mk 1 xNoPerson saNoPerson gaNoPerson ggNoPerson kCNoPerson caNoPerson tyNoPerson hsp htk
  have GNoPlace := fun_mk (st := sNoPlace) lINoPlace cINoPlace kINoPlace
  have XNoPlace : Cl K CNoPlace 1 := cl_mk 1 xNoPlace saNoPlace gaNoPlace ggNoPlace kCNoPlace caNoPlace tyNoPlace hsp htk
  have GOtherPeople := fun_mk (st := sOtherPeople) lIOtherPeople cIOtherPeople kIOtherPeople
  have XOtherPeople : Cl K COtherPeople 0 := cl_mk 0 xOtherPeople saOtherPeople gaOtherPeople ggOtherPeople kCOtherPeople caOtherPeople tyOtherPeople hsp htk
  have GTooMany := fun_mk (st := sTooMany) lITooMany cITooMany kITooMany
  have XTooMany : Cl K CTooMany 3 := cl_mk 3 xTooMany saTooMany gaTooMany ggTooMany kCTooMany caTooMany tyTooMany hsp htk
  have B : Blt mg := ⟨PySem.W.mg_none_of X G zisinstance, PySem.W.mg_none_of X G zlist, PySem.W.mg_none_of X G ztuple, PySem.W.mg_none_of X G zlen, PySem.W.mg_none_of X G zall, PySem.W.mg_none_of X G zzip, PySem.W.mg_none_of X G zbool, PySem.W.mg_none_of X G zstr, PySem.W.mg_none_of X G zint⟩
  have B2 : Blt2 mg := ⟨PySem.W.mg_none_of X G zValueError, PySem.W.mg_none_of X G zLookupError, PySem.W.mg_none_of X G zRuntimeError, PySem.W.mg_none_of X G zOverflowError, PySem.W.mg_none_of X G zIndexError, PySem.W.mg_none_of X G zKeyError, PySem.W.mg_none_of X G zNotImplementedError⟩
  have B3 : Blt3 mg := ⟨PySem.W.mg_none_of X G zrange, PySem.W.mg_none_of X G zmin⟩
  let c : Ad := ⟨CBadLine, CBadText, CBarred, CBlocked, CContradiction, CFull, CGap, CKnown, CNoNumber, CNoOperation, CNoPerson, CNoPlace, COtherPeople, CTooMany⟩
  have T : Tb K mg c := ⟨PySem.W.mg_of X G gBadLine, XBadLine, PySem.W.mg_of X G gBadText, XBadText, PySem.W.mg_of X G gBarred, XBarred, PySem.W.mg_of X G gBlocked, XBlocked, PySem.W.mg_of X G gContradiction, XContradiction, PySem.W.mg_of X G gFull, XFull, PySem.W.mg_of X G gGap, XGap, PySem.W.mg_of X G gKnown, XKnown, PySem.W.mg_of X G gNoNumber, XNoNumber, PySem.W.mg_of X G gNoOperation, XNoOperation, PySem.W.mg_of X G gNoPerson, XNoPerson, PySem.W.mg_of X G gNoPlace, XNoPlace, PySem.W.mg_of X G gOtherPeople, XOtherPeople, PySem.W.mg_of X G gTooMany, XTooMany, nd⟩
  have b0 := F0.binds (ps := ["_law_script", "_law_k"]) fun _ _ _ _ _ _ us hl => match us, hl with | [_, _], _ => rfl
  have b1 := F1.binds (ps := ["_law_script", "_law_k"]) fun _ _ _ _ _ _ us hl => match us, hl with | [_, _], _ => rfl
  have b2 := F2.binds (ps := ["_law_box_here", "_law_below"]) fun _ _ _ _ _ _ us hl => match us, hl with | [_, _], _ => rfl
  have b3 := F3.binds (ps := ["_law_found", "_law_due"]) fun _ _ _ _ _ _ us hl => match us, hl with | [_, _], _ => rfl
  have b4 := F4.binds (ps := ["_law_made"]) fun _ _ _ _ _ _ us hl => match us, hl with | [_], _ => rfl
  have b5 := F5.binds (ps := ["_law_made", "_law_at"]) fun _ _ _ _ _ _ us hl => match us, hl with | [_, _], _ => rfl
  have b6 := F6.binds (ps := ["_law_box_here"]) fun _ _ _ _ _ _ us hl => match us, hl with | [_], _ => rfl
  refine ⟨PySem.W.fnOf "law" "law" (defArgs sLaw) (defBody sLaw) (defScope sLaw) .none kV7 dc7 pm7 an7 cd7 ct7, fun s v => .of_eq rfl, fun base _ _ => ?_⟩
  have GC := ok_cell (P := l.prog) (w := w) (base := base) F0 (PySem.W.mg_none_of X G zlen)
  have GB := ok_box (P := l.prog) (w := w) (base := base) F1 GC b0 F0.kp m0 (PySem.W.mg_none_of X G zabs) (PySem.W.mg_none_of X G zint)
  have GT := ok_take (P := l.prog) (w := w) (mg := mg) (base := base) F2 b2 m2
  have GS := ok_same (P := l.prog) (w := w) (base := base) F3 b3 m3 B 3
  have GF := ok_flags (P := l.prog) (w := w) (base := base) (c := c) F4 B T
  have GO := ok_one (P := l.prog) (w := w) (base := base) (c := c) F5 GF b4 F4.kp m4 B B2 T
  have M : Mks l.prog w K mg base c := by
    refine ⟨?_, ?_, ?_, ?_, ?_, ?_, ?_, ?_, ?_, ?_, ?_, ?_, ?_, ?_⟩
    · exact ⟨XBadText, PySem.W.mg_of X G gBadText, noBadText, iBadText, _, iCBadText, tIBadText, iniBadText GBadText, kbn_of GBadText 2 [] (fun _ _ _ _ _ _ us ws h1 h2 => match us, ws, h1, h2 with | [_, _], [], _, _ => rfl), kbn_of GBadText 1 ["text"] (fun _ _ _ _ _ _ us ws h1 h2 => match us, ws, h1, h2 with | [_], [_], _, _ => rfl)⟩
    · exact ⟨XBadLine, PySem.W.mg_of X G gBadLine, noBadLine, iBadLine, _, iCBadLine, tIBadLine, iniBadLine GBadLine, kbn_of GBadLine 2 [] (fun _ _ _ _ _ _ us ws h1 h2 => match us, ws, h1, h2 with | [_, _], [], _, _ => rfl), kbn_of GBadLine 1 ["number"] (fun _ _ _ _ _ _ us ws h1 h2 => match us, ws, h1, h2 with | [_], [_], _, _ => rfl)⟩
    · exact ⟨XKnown, PySem.W.mg_of X G gKnown, noKnown, iKnown, _, iCKnown, tIKnown, iniKnown GKnown, kbn_of GKnown 2 [] (fun _ _ _ _ _ _ us ws h1 h2 => match us, ws, h1, h2 with | [_, _], [], _, _ => rfl), kbn_of GKnown 1 ["height"] (fun _ _ _ _ _ _ us ws h1 h2 => match us, ws, h1, h2 with | [_], [_], _, _ => rfl)⟩
    · exact ⟨XContradiction, PySem.W.mg_of X G gContradiction, noContradiction, iContradiction, _, iCContradiction, tIContradiction, iniContradiction GContradiction B, kbn_of GContradiction 2 [] (fun _ _ _ _ _ _ us ws h1 h2 => match us, ws, h1, h2 with | [_, _], [], _, _ => rfl), kbn_of GContradiction 1 ["cycle"] (fun _ _ _ _ _ _ us ws h1 h2 => match us, ws, h1, h2 with | [_], [_], _, _ => rfl)⟩
    · exact ⟨XGap, PySem.W.mg_of X G gGap, noGap, iGap, _, iCGap, tIGap, iniGap GGap, kbn_of GGap 2 [] (fun _ _ _ _ _ _ us ws h1 h2 => match us, ws, h1, h2 with | [_, _], [], _, _ => rfl), kbn_of GGap 1 ["index"] (fun _ _ _ _ _ _ us ws h1 h2 => match us, ws, h1, h2 with | [_], [_], _, _ => rfl)⟩
    · exact ⟨XNoPerson, PySem.W.mg_of X G gNoPerson, noNoPerson, iNoPerson, _, iCNoPerson, tINoPerson, iniNoPerson GNoPerson, kbn_of GNoPerson 2 [] (fun _ _ _ _ _ _ us ws h1 h2 => match us, ws, h1, h2 with | [_, _], [], _, _ => rfl), kbn_of GNoPerson 1 ["height"] (fun _ _ _ _ _ _ us ws h1 h2 => match us, ws, h1, h2 with | [_], [_], _, _ => rfl)⟩
    · exact ⟨XNoPlace, PySem.W.mg_of X G gNoPlace, noNoPlace, iNoPlace, _, iCNoPlace, tINoPlace, iniNoPlace GNoPlace, kbn_of GNoPlace 2 [] (fun _ _ _ _ _ _ us ws h1 h2 => match us, ws, h1, h2 with | [_, _], [], _, _ => rfl), kbn_of GNoPlace 1 ["place"] (fun _ _ _ _ _ _ us ws h1 h2 => match us, ws, h1, h2 with | [_], [_], _, _ => rfl)⟩
    · exact ⟨XNoNumber, PySem.W.mg_of X G gNoNumber, noNoNumber, iNoNumber, _, iCNoNumber, tINoNumber, iniNoNumber GNoNumber, kbn_of GNoNumber 2 [] (fun _ _ _ _ _ _ us ws h1 h2 => match us, ws, h1, h2 with | [_, _], [], _, _ => rfl), kbn_of GNoNumber 1 ["number"] (fun _ _ _ _ _ _ us ws h1 h2 => match us, ws, h1, h2 with | [_], [_], _, _ => rfl)⟩
    · exact ⟨XNoOperation, PySem.W.mg_of X G gNoOperation, noNoOperation, iNoOperation, _, iCNoOperation, tINoOperation, iniNoOperation GNoOperation, kbn_of GNoOperation 2 [] (fun _ _ _ _ _ _ us ws h1 h2 => match us, ws, h1, h2 with | [_, _], [], _, _ => rfl), kbn_of GNoOperation 1 ["many"] (fun _ _ _ _ _ _ us ws h1 h2 => match us, ws, h1, h2 with | [_], [_], _, _ => rfl)⟩
    · exact ⟨XBlocked, PySem.W.mg_of X G gBlocked, noBlocked, iBlocked, _, iCBlocked, tIBlocked, iniBlocked GBlocked B, kbn_of GBlocked 2 [] (fun _ _ _ _ _ _ us ws h1 h2 => match us, ws, h1, h2 with | [_, _], [], _, _ => rfl), kbn_of GBlocked 1 ["pair"] (fun _ _ _ _ _ _ us ws h1 h2 => match us, ws, h1, h2 with | [_], [_], _, _ => rfl)⟩
    · exact ⟨XBarred, PySem.W.mg_of X G gBarred, noBarred, iBarred, _, iCBarred, tIBarred, iniBarred GBarred, kbn_of GBarred 2 [] (fun _ _ _ _ _ _ us ws h1 h2 => match us, ws, h1, h2 with | [_, _], [], _, _ => rfl), kbn_of GBarred 1 ["height"] (fun _ _ _ _ _ _ us ws h1 h2 => match us, ws, h1, h2 with | [_], [_], _, _ => rfl)⟩
    · exact ⟨XTooMany, PySem.W.mg_of X G gTooMany, noTooMany, iTooMany, _, iCTooMany, tITooMany, iniTooMany GTooMany, kbn_of GTooMany 2 [] (fun _ _ _ _ _ _ us ws h1 h2 => match us, ws, h1, h2 with | [_, _], [], _, _ => rfl), kbn_of GTooMany 1 ["many"] (fun _ _ _ _ _ _ us ws h1 h2 => match us, ws, h1, h2 with | [_], [_], _, _ => rfl)⟩
    · exact ⟨XFull, PySem.W.mg_of X G gFull, noFull, iFull, _, iCFull, tIFull, iniFull GFull, kbn_of GFull 2 [] (fun _ _ _ _ _ _ us ws h1 h2 => match us, ws, h1, h2 with | [_, _], [], _, _ => rfl), kbn_of GFull 1 ["many"] (fun _ _ _ _ _ _ us ws h1 h2 => match us, ws, h1, h2 with | [_], [_], _, _ => rfl)⟩
    · exact ⟨XOtherPeople, PySem.W.mg_of X G gOtherPeople, iOtherPeople, _, iCOtherPeople, tIOtherPeople, iniOtherPeople GOtherPeople, kbn_of GOtherPeople 1 [] (fun _ _ _ _ _ _ us ws h1 h2 => match us, ws, h1, h2 with | [_], [], _, _ => rfl)⟩
  have GR := ok_right (P := l.prog) (w := w) (base := base) (c := c) F6 GT b2 F2.kp m2 GS b3 F3.kp m3 GO b5 F5.kp m5 B T M (PySem.W.mg_of X G zM1) (PySem.W.mg_of X G zM2) 1000
  exact ok_law F7 GB b1 F1.kp m1 GR b6 F6.kp m6 B B3
theorem walk {l : PySem.W.OpenLaw} {q : Program} {loose : List Str} {XP : (Str → Option Value) → Heap → Prop} {YP : World → Heap → Prop} {d : DefRec} {K : Params → PySem.W.Frag} (hn : l.most = some 63) (hdf : d.params.defaults = [])
    (hY : ∀ (w : World) (h : Heap), YP w h → (K w.params).In h)
    (F : ∀ (w : World) (mg : Str → Option Value) (fa : Addr) (h : Heap), (K w.params).In h → h.Ns mainGlobals mg → mg d.name = some (.ref fa) →
      ∃ fd : FuncData, (∀ (s : Shared) (u : Value), BindsTo s fd ⟨[u], []⟩ [("_law_script", u)]) ∧ ∀ base : Heap, (K w.params).In base → base.Ns mainGlobals mg → FnOk l.prog w (K w.params) mg base CX0 5 fa fd ["_law_script"] (spLaw (K w.params))) :
    PySem.W.WalkO q loose XP YP l.row.toRowW d [] (fun f vs => PySem.call f vs) :=
  L2.walk_of (n := 63) (k := 5) (x := "_law_script") (CX := fun _ => CX0) (sp := fun w => spLaw (K w.params)) hn (by decide) hdf ⟨rfl, by decide, by decide⟩ hY F (fun _ _ a ns hl _ hS => ⟨a, ns, rfl, hS, hl, fun _ => rfl⟩) fun _ _ _ _ _ z => z
end Ov
open PySem PySem.W PyProof.Rows
set_option maxRecDepth 100000 in
set_option maxHeartbeats 0 in
theorem PySem.Challenge.cw_overlooks_k15_errors_by_hand_holds : PySem.Challenge.rw_overlooks_k15_errors_by_hand.Holds := by
  w_on; o_law; k_head; (case hw => w_witness2)
  k_fill
  refine Ov.walk (l := PySem.Challenge.rw_overlooks_k15_errors_by_hand) rfl rfl (fun w h Y => PySem.W.kIn_of Y) ?F
  case F =>
    intro w mg fa h KX G hmg
    refine' Ov.all_mk KX G hmg ?a0 ?l0 ?c0 ?k0 ?a1 ?l1 ?c1 ?k1 ?a2 ?l2 ?c2 ?k2 ?a3 ?l3 ?c3 ?k3 ?a4 ?l4 ?c4 ?k4 ?a5 ?l5 ?c5 ?k5 ?a6 ?l6 ?c6 ?k6 ?a7 ?l7 ?c7 ?k7 ?gBadLine ?xBadLine ?saBadLine ?gaBadLine ?ggBadLine ?kCBadLine ?caBadLine ?tyBadLine ?iCBadLine ?tIBadLine ?lIBadLine ?cIBadLine ?kIBadLine ?noBadLine ?gBadText ?xBadText ?saBadText ?gaBadText ?ggBadText ?kCBadText ?caBadText ?tyBadText ?iCBadText ?tIBadText ?lIBadText ?cIBadText ?kIBadText ?noBadText ?gBarred ?xBarred ?saBarred ?gaBarred ?ggBarred ?kCBarred ?caBarred ?tyBarred ?iCBarred ?tIBarred ?lIBarred ?cIBarred ?kIBarred ?noBarred ?gBlocked ?xBlocked ?saBlocked ?gaBlocked ?ggBlocked ?kCBlocked ?caBlocked ?tyBlocked ?iCBlocked ?tIBlocked ?lIBlocked ?cIBlocked ?kIBlocked ?noBlocked ?gContradiction ?xContradiction ?saContradiction ?gaContradiction ?ggContradiction ?kCContradiction ?caContradiction ?tyContradiction ?iCContradiction ?tIContradiction ?lIContradiction ?cIContradiction ?kIContradiction ?noContradiction ?gFull ?xFull ?saFull ?gaFull ?ggFull ?kCFull ?caFull ?tyFull ?iCFull ?tIFull ?lIFull ?cIFull ?kIFull ?noFull ?gGap ?xGap ?saGap ?gaGap ?ggGap ?kCGap ?caGap ?tyGap ?iCGap ?tIGap ?lIGap ?cIGap ?kIGap ?noGap ?gKnown ?xKnown ?saKnown ?gaKnown ?ggKnown ?kCKnown ?caKnown ?tyKnown ?iCKnown ?tIKnown ?lIKnown ?cIKnown ?kIKnown ?noKnown ?gNoNumber ?xNoNumber ?saNoNumber ?gaNoNumber ?ggNoNumber ?kCNoNumber ?caNoNumber ?tyNoNumber ?iCNoNumber ?tINoNumber ?lINoNumber ?cINoNumber ?kINoNumber ?noNoNumber ?gNoOperation ?xNoOperation ?saNoOperation ?gaNoOperation ?ggNoOperation ?kCNoOperation ?caNoOperation ?tyNoOperation ?iCNoOperation ?tINoOperation ?lINoOperation ?cINoOperation ?kINoOperation ?noNoOperation ?gNoPerson ?xNoPerson ?saNoPerson ?gaNoPerson ?ggNoPerson ?kCNoPerson ?caNoPerson ?tyNoPerson ?iCNoPerson ?tINoPerson ?lINoPerson ?cINoPerson ?kINoPerson ?noNoPerson ?gNoPlace ?xNoPlace ?saNoPlace ?gaNoPlace ?ggNoPlace ?kCNoPlace ?caNoPlace ?tyNoPlace ?iCNoPlace ?tINoPlace ?lINoPlace ?cINoPlace ?kINoPlace ?noNoPlace ?gOtherPeople ?xOtherPeople ?saOtherPeople ?gaOtherPeople ?ggOtherPeople ?kCOtherPeople ?caOtherPeople ?tyOtherPeople ?iCOtherPeople ?tIOtherPeople ?lIOtherPeople ?cIOtherPeople ?kIOtherPeople ?gTooMany ?xTooMany ?saTooMany ?gaTooMany ?ggTooMany ?kCTooMany ?caTooMany ?tyTooMany ?iCTooMany ?tITooMany ?lITooMany ?cITooMany ?kITooMany ?noTooMany ?hsp ?htk ?zisinstance ?zlist ?ztuple ?zlen ?zall ?zzip ?zbool ?zstr ?zint ?zValueError ?zLookupError ?zRuntimeError ?zOverflowError ?zIndexError ?zKeyError ?zNotImplementedError ?zrange ?zmin ?zabs ?zM1 ?zM2 ?nd
    (case a0 => k_is)
    (case l0 => k_is)
    (case c0 => k_is)
    (case k0 => k_is)
    (case a1 => k_is)
    (case l1 => k_is)
    (case c1 => k_is)
    (case k1 => k_is)
    (case a2 => k_is)
    (case l2 => k_is)
    (case c2 => k_is)
    (case k2 => k_is)
    (case a3 => k_is)
    (case l3 => k_is)
    (case c3 => k_is)
    (case k3 => k_is)
    (case a4 => k_is)
    (case l4 => k_is)
    (case c4 => k_is)
    (case k4 => k_is)
    (case a5 => k_is)
    (case l5 => k_is)
    (case c5 => k_is)
    (case k5 => k_is)
    (case a6 => k_is)
    (case l6 => k_is)
    (case c6 => k_is)
    (case k6 => k_is)
    (case a7 => k_is)
    (case l7 => k_is)
    (case c7 => k_is)
    (case k7 => k_is)
    (case gBadLine => k_is)
    (case xBadLine => k_is)
    (case saBadLine => k_is)
    (case gaBadLine => k_is)
    (case ggBadLine => k_is)
    (case kCBadLine => k_is)
    (case caBadLine => k_is)
    (case tyBadLine => k_is)
    (case iCBadLine => k_is)
    (case tIBadLine => k_is)
    (case lIBadLine => k_is)
    (case cIBadLine => k_is)
    (case kIBadLine => k_is)
    (case noBadLine => k_is)
    (case gBadText => k_is)
    (case xBadText => k_is)
    (case saBadText => k_is)
    (case gaBadText => k_is)
    (case ggBadText => k_is)
    (case kCBadText => k_is)
    (case caBadText => k_is)
    (case tyBadText => k_is)
    (case iCBadText => k_is)
    (case tIBadText => k_is)
    (case lIBadText => k_is)
    (case cIBadText => k_is)
    (case kIBadText => k_is)
    (case noBadText => k_is)
    (case gBarred => k_is)
    (case xBarred => k_is)
    (case saBarred => k_is)
    (case gaBarred => k_is)
    (case ggBarred => k_is)
    (case kCBarred => k_is)
    (case caBarred => k_is)
    (case tyBarred => k_is)
    (case iCBarred => k_is)
    (case tIBarred => k_is)
    (case lIBarred => k_is)
    (case cIBarred => k_is)
    (case kIBarred => k_is)
    (case noBarred => k_is)
    (case gBlocked => k_is)
    (case xBlocked => k_is)
    (case saBlocked => k_is)
    (case gaBlocked => k_is)
    (case ggBlocked => k_is)
    (case kCBlocked => k_is)
    (case caBlocked => k_is)
    (case tyBlocked => k_is)
    (case iCBlocked => k_is)
    (case tIBlocked => k_is)
    (case lIBlocked => k_is)
    (case cIBlocked => k_is)
    (case kIBlocked => k_is)
    (case noBlocked => k_is)
    (case gContradiction => k_is)
    (case xContradiction => k_is)
    (case saContradiction => k_is)
    (case gaContradiction => k_is)
    (case ggContradiction => k_is)
    (case kCContradiction => k_is)
    (case caContradiction => k_is)
    (case tyContradiction => k_is)
    (case iCContradiction => k_is)
    (case tIContradiction => k_is)
    (case lIContradiction => k_is)
    (case cIContradiction => k_is)
    (case kIContradiction => k_is)
    (case noContradiction => k_is)
    (case gFull => k_is)
    (case xFull => k_is)
    (case saFull => k_is)
    (case gaFull => k_is)
    (case ggFull => k_is)
    (case kCFull => k_is)
    (case caFull => k_is)
    (case tyFull => k_is)
    (case iCFull => k_is)
    (case tIFull => k_is)
    (case lIFull => k_is)
    (case cIFull => k_is)
    (case kIFull => k_is)
    (case noFull => k_is)
    (case gGap => k_is)
    (case xGap => k_is)
    (case saGap => k_is)
    (case gaGap => k_is)
    (case ggGap => k_is)
    (case kCGap => k_is)
    (case caGap => k_is)
    (case tyGap => k_is)
    (case iCGap => k_is)
    (case tIGap => k_is)
    (case lIGap => k_is)
    (case cIGap => k_is)
    (case kIGap => k_is)
    (case noGap => k_is)
    (case gKnown => k_is)
    (case xKnown => k_is)
    (case saKnown => k_is)
    (case gaKnown => k_is)
    (case ggKnown => k_is)
    (case kCKnown => k_is)
    (case caKnown => k_is)
    (case tyKnown => k_is)
    (case iCKnown => k_is)
    (case tIKnown => k_is)
    (case lIKnown => k_is)
    (case cIKnown => k_is)
    (case kIKnown => k_is)
    (case noKnown => k_is)
    (case gNoNumber => k_is)
    (case xNoNumber => k_is)
    (case saNoNumber => k_is)
    (case gaNoNumber => k_is)
    (case ggNoNumber => k_is)
    (case kCNoNumber => k_is)
    (case caNoNumber => k_is)
    (case tyNoNumber => k_is)
    (case iCNoNumber => k_is)
    (case tINoNumber => k_is)
    (case lINoNumber => k_is)
    (case cINoNumber => k_is)
    (case kINoNumber => k_is)
    (case noNoNumber => k_is)
    (case gNoOperation => k_is)
    (case xNoOperation => k_is)
    (case saNoOperation => k_is)
    (case gaNoOperation => k_is)
    (case ggNoOperation => k_is)
    (case kCNoOperation => k_is)
    (case caNoOperation => k_is)
    (case tyNoOperation => k_is)
    (case iCNoOperation => k_is)
    (case tINoOperation => k_is)
    (case lINoOperation => k_is)
    (case cINoOperation => k_is)
    (case kINoOperation => k_is)
    (case noNoOperation => k_is)
    (case gNoPerson => k_is)
    (case xNoPerson => k_is)
    (case saNoPerson => k_is)
    (case gaNoPerson => k_is)
    (case ggNoPerson => k_is)
    (case kCNoPerson => k_is)
    (case caNoPerson => k_is)
    (case tyNoPerson => k_is)
    (case iCNoPerson => k_is)
    (case tINoPerson => k_is)
    (case lINoPerson => k_is)
    (case cINoPerson => k_is)
    (case kINoPerson => k_is)
    (case noNoPerson => k_is)
    (case gNoPlace => k_is)
    (case xNoPlace => k_is)
    (case saNoPlace => k_is)
    (case gaNoPlace => k_is)
    (case ggNoPlace => k_is)
    (case kCNoPlace => k_is)
    (case caNoPlace => k_is)
    (case tyNoPlace => k_is)
    (case iCNoPlace => k_is)
    (case tINoPlace => k_is)
    (case lINoPlace => k_is)
    (case cINoPlace => k_is)
    (case kINoPlace => k_is)
    (case noNoPlace => k_is)
    (case gOtherPeople => k_is)
    (case xOtherPeople => k_is)
    (case saOtherPeople => k_is)
    (case gaOtherPeople => k_is)
    (case ggOtherPeople => k_is)
    (case kCOtherPeople => k_is)
    (case caOtherPeople => k_is)
    (case tyOtherPeople => k_is)
    (case iCOtherPeople => k_is)
    (case tIOtherPeople => k_is)
    (case lIOtherPeople => k_is)
    (case cIOtherPeople => k_is)
    (case kIOtherPeople => k_is)
    (case gTooMany => k_is)
    (case xTooMany => k_is)
    (case saTooMany => k_is)
    (case gaTooMany => k_is)
    (case ggTooMany => k_is)
    (case kCTooMany => k_is)
    (case caTooMany => k_is)
    (case tyTooMany => k_is)
    (case iCTooMany => k_is)
    (case tITooMany => k_is)
    (case lITooMany => k_is)
    (case cITooMany => k_is)
    (case kITooMany => k_is)
    (case noTooMany => k_is)
    (case hsp => k_is)
    (case htk => k_is)
    (case zisinstance => k_is)
    (case zlist => k_is)
    (case ztuple => k_is)
    (case zlen => k_is)
    (case zall => k_is)
    (case zzip => k_is)
    (case zbool => k_is)
    (case zstr => k_is)
    (case zint => k_is)
    (case zValueError => k_is)
    (case zLookupError => k_is)
    (case zRuntimeError => k_is)
    (case zOverflowError => k_is)
    (case zIndexError => k_is)
    (case zKeyError => k_is)
    (case zNotImplementedError => k_is)
    (case zrange => k_is)
    (case zmin => k_is)
    (case zabs => k_is)
    (case zM1 => k_is)
    (case zM2 => k_is)
    (case nd => decide)
