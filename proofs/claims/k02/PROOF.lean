import PyProof.Rows.All
import Wide.All
import OpenK.AllK
import Wide.FinOn
import HandS.ForMost
import HandS.More
import HandS.IsInst
import HandS.Walk
import HandS.Zip
import HandS.Defaults
import HandS.MakeKwOnly
import HandS.ExcInit
import KE.KExcInit
import KE.KExcIs
import HandS.Evl
import HandS.Style
import HandS.CallSlots
import HandS.TryOnly
import HandS.WordsExc
import KE.KTryMore
import HandS.TupAny
import HandS.Conv
import PySem.Challenge.RW_overlooks_k02_people_who_come_and_go
set_option Elab.async false
set_option linter.all false
set_option maxRecDepth 100000
set_option maxHeartbeats 4000000
/-! exceptions of the program's own classes as values -/
namespace OvX
open PySem PySem.W PySem.Calls PyProof.Rows PySem.HandSPX PySem.Builtin PySem.Builtin.ObjectAttr
section
variable {M : Model} {prog : Program} {w : World} {A : Around} {E : Value → Shared → Prop} {R : Result → Shared → Prop} {h : Heap} {g : Array GenState} {d : Drawn} {t : Nat} {os : OsState}
variable {nm q : Str} {C N : Addr} {bs bm bmB : List Value} {hdct : Bool} {sn : List Str} {sub : List Value} {ab : Bool} {col : Option Bool} {dd : Option Addr} {k0 k1 k2 k3 k5 : Option Value} {B newId initId : String}
theorem newCheck (F : ExcBaseFacts B newId initId bmB) (hT : ∀ X : String, bm.contains (.type X) = bmB.contains (.type X)) {rest : List Value} {kw : List (Str × Value)} {Q : Unit → Shared → Prop}
    (hC : h.get? C = some (excClassObj nm q C N bs bm hdct sn sub ab col dd k0 k1 k2 k3 k5 newId)) (hq : Q () ⟨h, g, d, t, os⟩) : wpAny M A (checkBuiltinCall newId ⟨.ref C :: rest, kw⟩) Q E ⟨h, g, d, t, os⟩ := by
  have hB : (Value.ref C :: bm).contains (.type B) = true := by rw [List.contains_cons, hT, F.hasB, Bool.or_true]
  have hstar := F.noStar
  simp only [checkBuiltinCall, F.newKind, F.newSplit, F.newRow]
  repeat (first
    | refine wpAny_loadPart_at hC ?_
    | (refine wpAny_isSubtype_exc hC ?_; rw [hB])
    | refine wpAny_staticBase_exc hC ?_
    | refine wpAny_madeBy_exc hC ?_
    | simp only [bne_self_eq_false, Bool.false_eq_true, if_false]
    | wp_step)
  all_goals exact hq
theorem newMade (F : ExcBaseFacts B newId initId bmB) (hT : ∀ X : String, bm.contains (.type X) = bmB.contains (.type X)) {rest : List Value} {kw : List (Str × Value)}
    (hC : h.get? C = some (excClassObj nm q C N bs bm hdct sn sub ab col dd k0 k1 k2 k3 k5 newId)) (hz : rest.length ≤ sizeLine)
    (hq : R (.ok (.ret (.ref (h.objs.size + 1)))) ⟨(h.push (kdv_tup rest)).push (excO C h.objs.size), g, d, t, os⟩) :
    codeAny (model prog w) A (.builtin newId ⟨.ref C :: rest, kw⟩) R ⟨h, g, d, t, os⟩ := by
  have hE := F.ends
  have hB : (Value.ref C :: bm).contains (.type B) = true := by rw [List.contains_cons, hT, F.hasB, Bool.or_true]
  have hA : (Value.ref C :: bm).contains (.type "AttributeError") = false := by rw [List.contains_cons, hT, F.noAttr]; rfl
  have hN : (Value.ref C :: bm).contains (.type "NameError") = false := by rw [List.contains_cons, hT, F.noName]; rfl
  refine codeAny_builtinAt F.entry ?_
  unfold Builtin.«BaseException.__new__»
  refine PySem.wpAt_bind ?_
  show PySem.wpAt _ _ _ (stack >>= _) _ _ _
  refine PySem.wpAt_bind (PySem.wpAt_stack fun p below => PySem.wpAt_of_wpAny ?_)
  wp_walk
  refine PySem.wpAt_of_wpAny ?_
  rw [F.owner]
  repeat (first
    | with_reducible refine wpAny_madeHere_exc F.canon hC ?_
    | with_reducible refine wpAny_loadPart_at hC ?_
    | (with_reducible refine wpAny_isSubtype_exc hC ?_; first | rw [hB] | rw [hA] | rw [hN])
    | wp_step)
  show R _ _
  rw [Heap.size_push]
  exact hq
theorem typeCall (F : ExcBaseFacts B newId initId bmB) (hT : ∀ X : String, bm.contains (.type X) = bmB.contains (.type X)) {rest : List Value} {kw : List (Str × Value)} {fI : Addr} {Q : Fin → Shared → Prop}
    (hC : h.get? C = some (excClassObj nm q C N bs bm hdct sn sub ab col dd k0 k1 k2 k3 k5 newId))
    (hi : Looks (model prog w) h (typeLookup (.ref C) "__init__") (some (.ref fI))) (hb : ∀ self, Looks (model prog w) h (bindSpecial (.ref fI) self) (.ref fI, [self])) (hz : rest.length ≤ sizeLine)
    (hq : codeAny (model prog w) A (.call (.ref fI) ⟨.ref (h.objs.size + 1) :: rest, kw⟩)
      (fun r s' => match r with | .ok (.ret v) => v = .none ∧ Q (.done (.ret (.ref (h.objs.size + 1)))) s' | .ok _ => False | .error e => E e s')
      ⟨(h.push (kdv_tup rest)).push (excO C h.objs.size), g, d, t, os⟩) :
    wpAny (model prog w) A (Builtin.«type.__call__» ⟨.ref C :: rest, kw⟩) Q E ⟨h, g, d, t, os⟩ := by
  repeat (first
    | with_reducible refine wpAny_loadPart_at hC ?_
    | with_reducible refine wpAny_madeBy_exc hC ?_
    | wp_step)
  refine codeAny_call_builtin_code (Code.quiet_builtin _ F.quiet) (newCheck F hT hC ?_)
  refine newMade F hT hC hz ?_
  show wpAny _ _ _ _ _ _
  have k : ∀ b o, h.get? b = some o → ((h.push (kdv_tup rest)).push (excO C h.objs.size)).get? b = some o := fun b o e => Heap.get?_push_of_some _ (Heap.get?_push_of_some _ e)
  have hC1 := k _ _ hC
  have hg : ((h.push (kdv_tup rest)).push (excO C h.objs.size)).get? (h.objs.size + 1) = some (excO C h.objs.size) := by heap_get
  have hcC : (Value.ref C :: bm).contains (.ref C) = true := by simp
  have i1 := hi.keeps k
  have b1 := (hb (.ref (h.objs.size + 1))).keeps k
  unfold isInstance
  repeat (first
    | with_reducible refine wpAny_loadPart_at hg ?_
    | (with_reducible refine wpAny_isSubtype_exc hC1 ?_; rw [hcC])
    | wp_step)
  show wpAny _ _ (typeLookup (.ref C) _) _ _ _
  refine i1.at ?_
  refine wpAny_holding (wpAny_bind (b1.at ?_))
  refine wpAny_bind (wpAny_call (codeAny_mono hq fun r s' z => ?_))
  rcases r with e | (v | _ | _ | _) <;> first | exact z | exact z.elim | skip
  obtain ⟨rfl, z⟩ := z
  first
    | exact wpAny_pure (wpAny_pure z)
    | (wp_walk; exact z)
theorem typeCheck {rest : List Value} {kw : List (Str × Value)} {Q : Unit → Shared → Prop} (hC : h.get? C = some (excClassObj nm q C N bs bm hdct sn sub ab col dd k0 k1 k2 k3 k5 newId))
    (hq : Q () ⟨h, g, d, t, os⟩) : wpAny M A (checkBuiltinCall "type.__call__" ⟨.ref C :: rest, kw⟩) Q E ⟨h, g, d, t, os⟩ := by
  have f3 := tc_sub
  have hT : (⟨h, g, d, t, os⟩ : Shared).TypeIs (.ref C) "type" := ⟨_, hC, rfl⟩
  simp only [checkBuiltinCall, tc_kind, tc_split]
  repeat (any_goals (first
    | assumption
    | with_reducible refine wpAny_loadPart_at hC ?_
    | with_reducible refine wpAny_onRaise ?_
    | with_reducible refine wpAny_map ?_
    | wp_step))
  all_goals trace_state
theorem callOwn (F : ExcBaseFacts B newId initId bmB) (hT : ∀ X : String, bm.contains (.type X) = bmB.contains (.type X)) {rest : List Value} {kw : List (Str × Value)} {fI : Addr}
    (hC : h.get? C = some (excClassObj nm q C N bs bm hdct sn sub ab col dd k0 k1 k2 k3 k5 newId))
    (hi : Looks (model prog w) h (typeLookup (.ref C) "__init__") (some (.ref fI))) (hb : ∀ self, Looks (model prog w) h (bindSpecial (.ref fI) self) (.ref fI, [self])) (hz : rest.length ≤ sizeLine)
    (hq : codeAny (model prog w) (A.under (.builtin "type.__call__" ⟨.ref C :: rest, kw⟩)) (.call (.ref fI) ⟨.ref (h.objs.size + 1) :: rest, kw⟩) (InitBack (h.objs.size + 1) R)
      ⟨(h.push (kdv_tup rest)).push (excO C h.objs.size), g, d, t, os⟩) :
    codeAny (model prog w) A (.call (.ref C) ⟨rest, kw⟩) R ⟨h, g, d, t, os⟩ := by
  have f1 := tc_lookup
  have f2 := tc_bind (.ref C)
  have hTy : (⟨h, g, d, t, os⟩ : Shared).TypeIs (.ref C) "type" := ⟨_, hC, rfl⟩
  refine codeAny_of_tree ?_
  show wpAny _ _ (callAny (.ref C) _) _ _ _
  repeat (any_goals (first
    | assumption
    | with_reducible refine wpAny_loadPart_at hC ?_
    | wp_step))
  refine ⟨rfl, ?_⟩
  refine codeAny_call_builtin_at (Code.quiet_builtin _ (by decide +kernel)) entry_typeCall (typeCheck hC (typeCall F hT hC hi hb hz ?_))
  refine codeAny_mono hq fun r s' z => ?_
  rcases r with e | (v | _ | _ | _) <;> exact z
end
/-- what the written part says of an own class of exceptions -/
structure ExK (K : Frag) (C : Addr) (bmB : List Value) (newId : String) : Prop where
  over : excOver K C bmB = true
  ini : excInitIn K C bmB newId = true
  sa : findIn K (.ref C) "__setattr__" = some (some (.builtin "object.__setattr__"))
  ga : findIn K (.ref C) "__getattribute__" = some (some (.builtin "BaseException.__getattribute__"))
  gg : findIn K (.ref C) "__getattr__" = some none
  exC : subIn K (.ref C) (.type "BaseException") = some true
  hd : hasDictIn K C = true
  kC : keepIn K (.ref C) = true
  ca : findIn K (.ref C) "__class__" = some (some (.builtin "object.__class__"))
  sp : specialIn K (.builtin "object.__class__") "__get__" = some (some (.builtin "getset_descriptor.__get__"))
  tk : takesIn K (.builtin "object.__class__") = some true
  mr : mroIn K C (.type "object") = some true
section
variable {prog : Program} {w : World} {A : Around} {E : Value → Shared → Prop} {R : Result → Shared → Prop} {hp : Heap} {g : Array GenState} {d : Drawn} {t : Nat} {os : OsState} {B newId : String} {bmB : List Value} {K : Frag}
theorem firstStore (SF : StoreFacts B bmB "object.__setattr__" "object") {C x : Addr} (T : ExK K C bmB newId) {name : Str} {tk : Tok} {v : Value} {fv : Array Value} (X : K.In hp) (hx : hp.get? x = some { cls := .ref C, data := .fields fv }) (ha : findIn K (.ref C) name = some none)
    (hq : ∀ h' tk' dx, (∀ b o, b ≠ x → hp.get? b = some o → h'.get? b = some o) → hp.objs.size ≤ dx → dx ≠ x → h'.get? x = some { cls := .ref C, dict := some dx, data := .fields fv } →
      h'.Ns1 dx (fun y => if y = name then some v else none) → R (.ok (.ret .none)) ⟨h', g, d, tk', os⟩) :
    codeAny (model prog w) A (.call (.builtin "object.__setattr__") ⟨[.ref x, .str name tk, v], []⟩) R ⟨hp, g, d, t, os⟩ := by
  refine osa_openX (r := none) (s := ⟨hp, g, d, t, os⟩) SF X (ox := { cls := .ref C, data := .fields fv }) (od := none) ⟨hx, rfl, rfl, trivial⟩ T.over (by unfold takerIn; rw [ha]; rfl) (fun b => ?_)
  show wpAny _ _ (storeInOwnDict (.ref x) (.ref C) (.str name tk) name v b) _ _ _
  obtain ⟨cd, hcd, hh⟩ := any_some T.hd
  have hcls : Looks (model prog w) hp (classData C) cd := looks_clsIn X hcd
  have hxs : x ≠ hp.objs.size := Nat.ne_of_lt (Heap.lt_size hx)
  obtain ⟨nm, bs, mro, ns, qn, hdd, sn, sb, ab, col, del⟩ := cd
  dsimp only at hh
  subst hh
  unfold storeInOwnDict ownDictForStores
  repeat (first
    | with_reducible refine store_in_new ?_ ?_
    | with_reducible refine wpAny_loadPart_at hx ?_
    | with_reducible refine hcls.at ?_
    | wp_step)
  · exact ⟨_, #[], _, (Heap.get?_update_ne _ _ _ _ hxs.symm).trans (Heap.get?_push_at rfl rfl), rfl, fun e he => absurd he (by simp), fun _ => rfl⟩
  · intro h' tk' hn' hs
    have h1 : (hp.push { cls := .type "dict", data := .dict #[] }).get? x = some { cls := .ref C, data := .fields fv } := Heap.get?_push_of_some _ hx
    exact hq h' tk' hp.objs.size (fun b o hb ho => (hs.2 b (Nat.ne_of_lt (Heap.lt_size ho))).trans ((Heap.get?_update_ne _ _ _ _ hb).trans (Heap.get?_push_of_some _ ho))) (Nat.le_refl _) hxs.symm
      ((hs.2 x hxs).trans (Heap.get?_update_self _ h1 rfl)) hn'
end
end OvX
namespace Ov
open PySem L2
section
variable {X : Cx} {pins : List (Addr × Obj)} {σ : L2.St} {H : Hp} {s : Shared} {a C dx : Addr} {f : Str} {y : V} {u : Value} {fs : List (Str × V)} {B newId initId : String} {bmB : List Value}
/-- the first attribute of a new exception -/
theorem set_first {Q : Unit → Shared → Prop} {E : Value → Shared → Prop} {A : Around} (SF : PySem.StoreFacts B bmB "object.__setattr__" "object") (T : OvX.ExK X.K C bmB newId) (I : Inv X pins σ H s) (e : H a = some (exo a C none)) (hno : PySem.W.findIn X.K (.ref C) f = some none) (ry : RelV y u)
    (h : ∀ dx s', H dx = none → dx ≠ a → Inv X pins σ (upd (upd H dx (exd dx [(f, y)])) a (exo a C (some dx))) s' → Q () s') : wpAny (model X.prog X.w) A (setAttr (.ref a) f u) Q E s := by
  obtain ⟨t1, ho⟩ := exo_at I.hok e
  obtain ⟨hp, g, d, t, os⟩ := s
  refine PySem.W.set_plain I.kIn (ox := { cls := .ref C, dict := none, data := .fields #[.ref t1, .none, .none, .none, .bool false, .none] }) (od := none) ⟨ho, rfl, rfl, trivial⟩ T.sa ?_
  refine OvX.firstStore SF T I.kIn ho hno (fun h' tk' dx k dn dne hx hn => ?_)
  have hnd : H dx = none := I.hok.fresh dn
  have nd : ∀ {b : Addr} {o : Obj}, hp.get? b = some o → b ≠ dx := fun {b o} q => Nat.ne_of_lt (Nat.lt_of_lt_of_le (Heap.lt_size q) dn)
  have na : ∀ {b : Addr}, H b = none → b ≠ a := fun {b} n z => by
    rw [z, e] at n
    cases n
  have un : Un X.fs [] H (upd (upd H dx (exd dx [(f, y)])) a (exo a C (some dx))) hp h' := by
    refine ⟨fun b o q n _ _ => k b o (na n) q, fun b o q n _ _ => ⟨o.slots, k b o (na n) q⟩, fun b o q n _ => ?_, fun b o q _ => ?_, fun b xs q => ?_, fun b o v q => ?_, fun b ps q => ⟨#[], ?_⟩⟩
    · rw [upd_ne (na n), upd_ne (nd q)]
      exact n
    · by_cases hb : b = a
      · subst hb
        exact ⟨_, hx⟩
      · exact ⟨o, k b o hb q⟩
    · rw [upd_ne (at_ne e q exo_tup), upd_ne (ne_of_none q hnd)]
      exact q
    · rw [upd_ne (at_ne e q exo_frz), upd_ne (ne_of_none q hnd)]
      exact q
    · rw [upd_ne (at_ne e q exo_tbl), upd_ne (ne_of_none q hnd), q]
      simp
  refine h dx _ hnd dne (I.un (t' := tk') un fun b o q => ?_)
  by_cases hb : b = a
  · subst hb
    rw [upd_same] at q
    cases q
    exact exo_ok hx
  rw [upd_ne hb] at q
  by_cases hd : b = dx
  · subst hd
    rw [upd_same] at q
    cases q
    exact exd_ok hn (relO_put (fs := []) ry fun g => True.intro)
  rw [upd_ne hd] at q
  refine (I.hok b o q).stay (fun c v hc z => k c v ?_ z) (fun c hc => ?_) (fun c xs hc => ?_)
  · rcases hc with hc | hc
    · rw [hc]
      exact hb
    · exact at_ne e hc exo_own
  · rw [upd_ne (at_ne e hc exo_own), upd_ne (ne_of_none hc hnd)]
    exact hc
  · rw [upd_ne (at_ne e hc exo_tup), upd_ne (ne_of_none hc hnd)]
    exact hc
/-- self.f = e in an __init__ -/
def tSt1 (K : PySem.W.Frag) (bmB : List Value) (newId : String) (f : Str) (to te : TE) : TS := fun D σ H => te σ H fun y H1 => to σ H1 fun x H2 => ∃ a C : Addr, x = .ref a ∧ OvX.ExK K C bmB newId ∧ PySem.W.findIn K (.ref C) f = some none ∧
  H2 a = some (exo a C none) ∧ ∀ dx, H2 dx = none → dx ≠ a → D.nx σ (upd (upd H2 dx (exd dx [(f, y)])) a (exo a C (some dx)))
theorem ps_st1 {o e : Expr} {to te : TE} {p' pos : Pos} (SF : PySem.StoreFacts B bmB "object.__setattr__" "object") (ho : PE X o to) (he : PE X e te) (hs : swapsWith e (some (.Attribute o f p')) pos.line X.env = pure false := by rfl) :
    PS X (.Assign [.Attribute o f p'] e pos) (tSt1 X.K bmB newId f to te) := by
  refine ⟨fun pins s σ H D I h => ?_⟩
  refine plainObj_wpAny_Assign_Attribute (thn (he.run pins s σ H _ I h) fun v s1 ⟨y, H1, I1, r1, q1⟩ => thn (ho.run pins s1 σ H1 _ I1 q1) fun u s2 ⟨x, H2, I2, r2, a, C, ex, T, hno, ea, q⟩ => ?_) hs
  subst ex
  obtain rfl : u = Value.ref a := r2
  exact set_first SF T I2 ea hno r1 fun dx s' n ne J => ⟨σ, _, J, q dx n ne⟩
end
end Ov

set_option Elab.async false
set_option linter.all false
set_option maxRecDepth 100000
set_option maxHeartbeats 4000000
namespace Ov
open PySem L2
section
variable {X : Cx} {CX : CXT} {k n : Nat} {fI C : Addr} {fd : FuncData} {ps ks : List Str} {sp : Sp} {E : XK} {x : Str} {p pos : Pos} {e o : Expr} {es : List Expr} {kws : List Keyword} {t tk : TA} {te : TE} {g : List Value → List Value → List Value} {gV : List V → List V → List V} {B newId initId : String} {bmB : List Value}
theorem run_ex {pins : List (Addr × Obj)} {σ : L2.St} {H : Hp} {s : Shared} {Q : VK} {us ws : List Value} {vs zs : List V} (T : OvX.ExK X.K C bmB newId) (FB : ExcBaseFacts B newId initId bmB) (iC : PySem.W.findIn X.K (.ref C) "__init__" = some (some (.ref fI))) (tI : PySem.W.typeIn X.K (.ref fI) = some (.type "function"))
    (F1 : FnOk X.prog X.w X.K X.mg X.base CX k fI fd ps sp) (hr : Room (k + 1) X.A) (hb : KBn X.K fd ps (n + 1) ks g gV) (hx : Passes CX X E) (I : Inv X pins σ H s) (r : Vals vs us) (rz : Vals zs ws) (l1 : vs.length = n) (l2 : zs.length = ks.length) (hz : n ≤ 1000)
    (h : ∀ a, H a = none → sp (gV (.ref a :: vs) zs) (upd H a (exo a C none)) (fun v H2 => v = .non ∧ Q (.ref a) H2) E) :
    wpAny (model X.prog X.w) X.A (call (.ref C) us (ks.zip ws)) (EP X pins σ Q) X.xe s := by
  obtain ⟨nm, N, qn, bs, bm, hdct, sn, sub, ab, col, dd, k0, k1, k2, k3, k5, hC, hT⟩ := PySem.W.excInit_of I.kIn T.ini
  obtain ⟨hp, gs, dr, tk, os⟩ := s
  have hsz : hp.objs.size ≤ hp.objs.size + 1 := Nat.le_succ _
  have hq := h (hp.objs.size + 1) (I.hok.fresh hsz)
  have kk : ∀ b u, hp.get? b = some u → ((hp.push (PySem.W.kdv_tup us)).push (PySem.HandSPX.excO C hp.objs.size)).get? b = some u := fun b u q => Heap.get?_push_of_some _ (Heap.get?_push_of_some _ q)
  have hg : ((hp.push (PySem.W.kdv_tup us)).push (PySem.HandSPX.excO C hp.objs.size)).get? (hp.objs.size + 1) = some (PySem.HandSPX.excO C hp.objs.size) := by heap_get
  have I2 : Inv X pins σ (upd H (hp.objs.size + 1) (exo (hp.objs.size + 1) C none)) ⟨(hp.push (PySem.W.kdv_tup us)).push (PySem.HandSPX.excO C hp.objs.size), gs, dr, tk, os⟩ :=
    I.laid (t' := tk) (a := hp.objs.size + 1) (o := exo (hp.objs.size + 1) C none) (h' := (hp.push (PySem.W.kdv_tup us)).push (PySem.HandSPX.excO C hp.objs.size)) kk hsz (exo_ok hg)
  have r1 : Vals (V.ref (hp.objs.size + 1) :: vs) (Value.ref (hp.objs.size + 1) :: us) := .cons rfl r
  have r2 := hb.rel r1 rz
  have e1 : (Value.ref (hp.objs.size + 1) :: us).length = n + 1 := r1.length.symm.trans (congrArg Nat.succ l1)
  have e2 : ws.length = ks.length := rz.length.symm.trans l2
  have hus : us.length ≤ sizeLine := by
    rw [← r.length, l1, sizeLine_eq]
    omega
  refine wpAny_call (OvX.callOwn FB hT hC (PySem.W.looks_findIn I.kIn iC) (fun self => PySem.W.bind_fn I.kIn self tI) hus
    (codeAny_mono (F1.run _ X.stack _ _ ⟨Value.ref (hp.objs.size + 1) :: us, ks.zip ws⟩ (g (Value.ref (hp.objs.size + 1) :: us) ws) _ _ E (hr.make C us (ks.zip ws)) (I2.env0.make C us (ks.zip ws)) (hb.to _ _ ws I2.kIn e1 e2) r2 hq) fun r s' hq' => ?_))
  cases r with
  | error er => exact hx pins σ _ _ er s' I2 hq'
  | ok fl =>
    cases fl with
    | ret u =>
      obtain ⟨v, H', I3, rv, ev, q3⟩ := I2.after hq'
      subst ev
      exact ⟨rv, ⟨V.ref (hp.objs.size + 1), H', I3, rfl, q3⟩⟩
    | next => exact False.elim hq'
    | brk => exact False.elim hq'
    | cont => exact False.elim hq'
/-- a new exception: C(e, .., k = v, ..) -/
def tEx (C : Addr) (n m : Nat) (sp : Sp) (gV : List V → List V → List V) (E : XK) (t tk : TA) : TE := fun σ H Q => t σ H fun vs H1 => tk σ H1 fun zs H2 => vs.length = n ∧ zs.length = m ∧ n ≤ 1000 ∧
  ∀ a, H2 a = none → sp (gV (.ref a :: vs) zs) (upd H2 a (exo a C none)) (fun v H3 => v = .non ∧ Q (.ref a) H3) E
theorem pe_ex (T : OvX.ExK X.K C bmB newId) (FB : ExcBaseFacts B newId initId bmB) (iC : PySem.W.findIn X.K (.ref C) "__init__" = some (some (.ref fI))) (tI : PySem.W.typeIn X.K (.ref fI) = some (.type "function"))
    (F1 : FnOk X.prog X.w X.K X.mg X.base CX k fI fd ps sp) (hr : Room (k + 1) X.A) (hg : Gl X x) (hm : X.mg x = some (.ref C)) (hb : KBn X.K fd ps (n + 1) [] g gV) (hx : Passes CX X E) (ha : PA X (e :: es) t)
    (hdb : (x == ("__debug__" : Str)) = false := by decide) (he : starEach (e :: es) X.env = (false, eval e X.env) :: starEach es X.env := by rfl) (hpl : (backTo pos (starEach es X.env)).any (·.1) = false := by rfl) :
    PE X (.Call (.Name x p) (e :: es) [] pos) (tEx C n 0 sp gV E t tNil) := by
  refine ⟨fun pins s σ H Q I h => ?_⟩
  refine wpAny_Call_Name_kw (ld_glob I hg hm ?_ hdb)
  refine PySem.W.callWith_K (h₀ := X.base) I.ok.mod.kin T.kC (thn (ha.run pos pins s σ H _ I h) fun us s1 ⟨vs, H1, I1, r, q⟩ => ⟨I1.kIn, ?_⟩) he hpl
  obtain ⟨l1, l2, hz, q⟩ := q
  exact run_ex (ks := []) (zs := []) (ws := []) T FB iC tI F1 hr hb hx I1 r .nil l1 rfl hz q
/-- C() -/
theorem pe_ex0 (T : OvX.ExK X.K C bmB newId) (FB : ExcBaseFacts B newId initId bmB) (iC : PySem.W.findIn X.K (.ref C) "__init__" = some (some (.ref fI))) (tI : PySem.W.typeIn X.K (.ref fI) = some (.type "function"))
    (F1 : FnOk X.prog X.w X.K X.mg X.base CX k fI fd ps sp) (hr : Room (k + 1) X.A) (hg : Gl X x) (hm : X.mg x = some (.ref C)) (hb : KBn X.K fd ps 1 [] g gV) (hx : Passes CX X E)
    (hdb : (x == ("__debug__" : Str)) = false := by decide) : PE X (.Call (.Name x p) [] [] pos) (tEx C 0 0 sp gV E tNil tNil) := by
  refine ⟨fun pins s σ H Q I h => ?_⟩
  refine wpAny_Call_Name_kw (ld_glob I hg hm ?_ hdb)
  obtain ⟨l1, l2, hz, q⟩ := h
  exact PySem.W.callWith_K0 I.kIn T.kC (run_ex (ks := []) (zs := []) (ws := []) (vs := []) (us := []) T FB iC tI F1 hr hb hx I .nil .nil rfl rfl hz q)
/-- C(k = v, ..) -/
theorem pe_exK (T : OvX.ExK X.K C bmB newId) (FB : ExcBaseFacts B newId initId bmB) (iC : PySem.W.findIn X.K (.ref C) "__init__" = some (some (.ref fI))) (tI : PySem.W.typeIn X.K (.ref fI) = some (.type "function"))
    (F1 : FnOk X.prog X.w X.K X.mg X.base CX k fI fd ps sp) (hr : Room (k + 1) X.A) (hg : Gl X x) (hm : X.mg x = some (.ref C)) (hb : KBn X.K fd ps 1 ks g gV) (hx : Passes CX X E) (hkw : PK X kws tk)
    (hall : (backToKw pos (keywordEach kws X.env)).all (·.1.isSome) = true := by rfl) (hks : (backToKw pos (keywordEach kws X.env)).filterMap (·.1) = ks := by rfl) (hdb : (x == ("__debug__" : Str)) = false := by decide)
    (hpl : ((backTo pos (starEach [] X.env)).any (·.1) || (backToKw pos (keywordEach kws X.env)).any (·.1.isNone)) = false := by rfl) :
    PE X (.Call (.Name x p) [] kws pos) (tEx C 0 ks.length sp gV E tNil tk) := by
  refine ⟨fun pins s σ H Q I h => ?_⟩
  refine wpAny_Call_Name_kw (ld_glob I hg hm ?_ hdb)
  refine PySem.W.callWith_KW0 (h₀ := X.base) I.ok.mod.kin T.kC hall ?_ hpl
  refine thn (hkw.run pos pins s σ H _ I h) fun ws s2 ⟨zs, H2, I2, rz, l1, l2, hz, q2⟩ => ⟨I2.kIn, ?_⟩
  rw [hks]
  exact run_ex (us := []) (vs := []) T FB iC tI F1 hr hb hx I2 .nil rz rfl l2 hz q2
/-- an exception of the class at C at a, with the attributes fs -/
def Exc (K : PySem.W.Frag) (H : Hp) (a C : Addr) (fs : List (Str × V)) : Prop := ∃ bmB newId, OvX.ExK K C bmB newId ∧ ((fs = [] ∧ H a = some (exo a C none)) ∨ ∃ dx, H a = some (exo a C (some dx)) ∧ H dx = some (exd dx fs))
theorem Exc.same {K : PySem.W.Frag} {H H' : Hp} {a C : Addr} {fs : List (Str × V)} (h : Exc K H a C fs) (s : Same H H') : Exc K H' a C fs := by
  obtain ⟨b, m, T, h⟩ := h
  rcases h with ⟨e, h⟩ | ⟨dx, h1, h2⟩
  · exact ⟨b, m, T, .inl ⟨e, s _ _ h⟩⟩
  · exact ⟨b, m, T, .inr ⟨dx, s _ _ h1, s _ _ h2⟩⟩
/-- e.f -/
def tExf (K : PySem.W.Frag) (f : Str) (te : TE) : TE := fun σ H Q => te σ H fun x H1 => ∃ (a C : Addr) (fs : List (Str × V)) (v : V), x = .ref a ∧ Exc K H1 a C fs ∧ PySem.W.findIn K (.ref C) f = some none ∧ fs.lookup f = some v ∧ Q v H1
theorem pe_exf {f : Str} (he : PE X e te) (hb : attributeBase e f X.env (eval e X.env) = eval e X.env := by rfl) : PE X (.Attribute e f pos) (tExf X.K f te) := by
  refine ⟨fun pins s σ H Q I h => ?_⟩
  refine attr_of hb (thn (he.run pins s σ H _ I h) fun u s1 hh => ?_)
  obtain ⟨y, H1, I1, rx, a, C, fs, v, ex, ⟨bmB, newId, T, hE⟩, hno, l, q⟩ := hh
  subst ex
  obtain rfl : u = Value.ref a := rx
  rcases hE with ⟨rfl, _⟩ | ⟨dx, h1, h2⟩
  · cases l
  obtain ⟨t1, ho⟩ := exo_at I1.hok h1
  obtain ⟨mA, hns, rel⟩ := exd_at I1.hok h2
  obtain ⟨od, hod, hl⟩ := lookIn_ns hns
  obtain ⟨u, hu, ru⟩ := RelO.some_of (v := v) (o := mA f) (by rw [← l]; exact rel f)
  have J : PySem.W.InstAt s1.heap a { cls := .ref C, dict := some dx, data := .fields #[.ref t1, .none, .none, .none, .bool false, .none] } C (some od) := ⟨ho, rfl, rfl, hod⟩
  exact HandSPX.exc_get I1.kIn J T.ga T.gg T.exC (PySem.W.findObj_own T.hd hno rfl (by rw [hl, hu])) (handed_of ru) ⟨v, H1, I1.tok _, ru, q⟩
/-- what isinstance asks of it -/
theorem exc_kit {pins : List (Addr × Obj)} {σ : L2.St} {H : Hp} {s : Shared} {a : Addr} {fs : List (Str × V)} (I : Inv X pins σ H s) (h : Exc X.K H a C fs) : ∃ P : Heap → Prop, PySem.W.KitX X.K (.ref a) (.ref C) P ∧ P s.heap := by
  obtain ⟨bmB, newId, T, hE⟩ := h
  obtain ⟨cd, hcd, _⟩ := PySem.W.any_some T.hd
  have hs : (PySem.W.clsIn X.K C).isSome = true := by rw [hcd]; rfl
  rcases hE with ⟨_, h1⟩ | ⟨dx, h1, h2⟩
  · obtain ⟨t1, ho⟩ := exo_at I.hok h1
    exact ⟨_, PySem.W.kitx_exc hs T.ga T.gg T.exC T.ca T.sp T.tk T.mr, show PySem.W.InstAt s.heap a _ C none from ⟨ho, rfl, rfl, trivial⟩⟩
  · obtain ⟨t1, ho⟩ := exo_at I.hok h1
    obtain ⟨mA, hns, rel⟩ := exd_at I.hok h2
    obtain ⟨od, hod, hl⟩ := lookIn_ns hns
    exact ⟨_, PySem.W.kitx_exc hs T.ga T.gg T.exC T.ca T.sp T.tk T.mr, show PySem.W.InstAt s.heap a _ C (some od) from ⟨ho, rfl, rfl, hod⟩⟩
/-- isinstance(e, c) -/
def rIsX (K : PySem.W.Frag) : List V → Hp → VK → Prop := fun xs H Q => ∃ (a C : Addr) (fs : List (Str × V)) (c : V) (u : Value) (b : Bool), xs = [.ref a, c] ∧ ClsV c u ∧ Exc K H a C fs ∧ PySem.W.kitOne K (.ref C) u = some b ∧ Q (.bl b) H
theorem call_isX : CallR X (.builtin "isinstance") (rIsX X.K) := by
  intro pins s σ H xs us Q I r h
  obtain ⟨a, C, fs, c, u, b, rfl, k, ex, e, q⟩ := h
  obtain ⟨u1, u2, rfl, r1, r2⟩ := vals2 r
  have e2 := k.eq r2
  subst e2
  obtain rfl : u1 = Value.ref a := r1
  obtain ⟨P, Z, p⟩ := exc_kit I ex
  exact PySem.W.kia_one Z I.kIn p e (fun z => nomatch z) fun tk => ⟨.bl b, H, I.tok tk, rfl, q⟩
/-- isinstance(e, (c1, c2, ..)) -/
def rIsXT (K : PySem.W.Frag) : List V → Hp → VK → Prop := fun xs H Q => ∃ (a C : Addr) (fs : List (Str × V)) (tp : Addr) (cs : List V) (us : List Value) (b : Bool), xs = [.ref a, .ref tp] ∧ H tp = some (.tup cs) ∧ Paired ClsV cs us ∧ Exc K H a C fs ∧ PySem.W.kitAny K (.ref C) us = some b ∧ Q (.bl b) H
theorem call_isXT : CallR X (.builtin "isinstance") (rIsXT X.K) := by
  intro pins s σ H xs us Q I r h
  obtain ⟨a, C, fs, tp, cs, ws, b, rfl, hT, k, ex, e, q⟩ := h
  obtain ⟨u1, u2, rfl, r1, r2⟩ := vals2 r
  obtain rfl : u2 = Value.ref tp := r2
  obtain rfl : u1 = Value.ref a := r1
  obtain ⟨P, Z, p⟩ := exc_kit I ex
  obtain ⟨_, its, rv, o, h1, h2, n, h3⟩ := (show ObjOk X.prog X.w H s.heap tp (.tup cs) from I.hok tp _ hT)
  have e3 := ClsV.all k rv
  subst e3
  obtain ⟨oc, od, dt, sl⟩ := o
  simp only at h2 h3
  subst h2 h3
  exact PySem.W.kia_tup Z I.kIn p h1 e (fun z => nomatch z) fun tk => ⟨.bl b, H, I.tok tk, rfl, q⟩
end
end Ov

set_option Elab.async false
set_option linter.all false
set_option maxRecDepth 100000
set_option maxHeartbeats 4000000
namespace Ov
open PySem L2
/-! heaps -/
def SameB (p : Addr) (H H' : Hp) : Prop := ∀ b o, b ≠ p → H b = some o → H' b = some o
theorem SameB.refl (p : Addr) (H : Hp) : SameB p H H := fun _ _ _ h => h
theorem SameB.trans {p : Addr} {H H1 H2 : Hp} (a : SameB p H H1) (b : SameB p H1 H2) : SameB p H H2 := fun c o n h => b c o n (a c o n h)
theorem SameB.of {p : Addr} {H H' : Hp} (a : Same H H') : SameB p H H' := fun c o _ h => a c o h
theorem SameB.upd {p : Addr} {H : Hp} (o : HO) : SameB p H (upd H p o) := fun b u n h => by rw [upd_ne n]; exact h
theorem same_new {H : Hp} {p : Addr} (h : H p = none) (o : HO) : Same H (upd H p o) := fun b u q => by rw [upd_ne (ne_of_none q h)]; exact q
def Bx (H : Hp) (p : Addr) (n : Int) : Prop := ∃ b0 b1 b2 : Int, H p = some (.lst [.int b0, .int b1, .int b2]) ∧ 0 ≤ b0 ∧ 0 ≤ b1 ∧ b1 < 2 ^ 62 ∧ 0 ≤ b2 ∧ b2 ≤ n
theorem Bx.mono {H : Hp} {p : Addr} {n m : Int} (h : Bx H p n) (e : n ≤ m) : Bx H p m := by
  obtain ⟨b0, b1, b2, h1, h2, h3, h4, h5, h6⟩ := h
  exact ⟨b0, b1, b2, h1, h2, h3, h4, h5, by omega⟩
theorem Bx.same {H H' : Hp} {p : Addr} {n : Int} (h : Bx H p n) (e : Same H H') : Bx H' p n := by
  obtain ⟨b0, b1, b2, h1, h2⟩ := h
  exact ⟨b0, b1, b2, e _ _ h1, h2⟩
theorem small {n : Nat} (h : n ≤ 1000) : n ≤ sizeLine := Nat.le_of_lt (small1000 h)
theorem flag64 (b : Bool) : -(2 ^ 64) < (if b = true then (1 : Int) else 0) ∧ (if b = true then (1 : Int) else 0) < 2 ^ 64 := by
  cases b <;> decide
theorem Bx.upd {H : Hp} {p : Addr} {b0 b1 b2 n : Int} (p0 : 0 ≤ b0) (p1 : 0 ≤ b1) (p1' : b1 < 2 ^ 62) (p2 : 0 ≤ b2) (p2' : b2 ≤ n) : Bx (upd H p (.lst [.int b0, .int b1, .int b2])) p n := ⟨b0, b1, b2, upd_same, p0, p1, p1', p2, p2'⟩
theorem fac7 (x : Int) : -(2 ^ 64) < x % 40009 + 7 ∧ x % 40009 + 7 < 2 ^ 64 := by omega
theorem back_none {H H' : Hp} (s : Same H H') {p : Addr} (h : H' p = none) : H p = none := by
  cases e : H p with
  | none => rfl
  | some o =>
    rw [s _ _ e] at h
    cases h
theorem fresh_of {H H1 : Hp} {p : Addr} {o : HO} (e : upd H p o = H1) (hp : H p = none) : Same H H1 ∧ H1 p = some o := by
  subst e
  exact ⟨same_new hp o, upd_same⟩
theorem mut_of {H H1 : Hp} {p : Addr} {o : HO} (e : upd H p o = H1) : SameB p H H1 ∧ H1 p = some o := by
  subst e
  exact ⟨SameB.upd o, upd_same⟩
theorem same_mut {H H1 H2 : Hp} {p : Addr} (a : Same H H1) (hp : H p = none) (b : SameB p H1 H2) : Same H H2 := fun c o h => b c o (ne_of_none h hp) (a c o h)
theorem same_refl (H : Hp) : Same H H := fun _ _ h => h
theorem smallB {n : Nat} (h : Nat.ble n 1000 = true) : n ≤ sizeLine := small (Nat.le_of_ble_eq_true h)
theorem smallC {n : Nat} (h : Nat.ble n 1000 = true) : n < sizeLine := small1000 (Nat.le_of_ble_eq_true h)
theorem lookup_one (f : Str) (v : V) : List.lookup f [(f, v)] = some v := by simp [List.lookup]
theorem atI_ref {as : List Addr} {i : Nat} {a : Addr} (h : as[i]? = some a) : atI (as.map V.ref) (i : Int) = some (.ref a) := atI_nat (by rw [List.getElem?_map, h]; rfl)
theorem Exc.mut {K : PySem.W.Frag} {H H' : Hp} {a C p : Addr} {fs : List (Str × V)} {xs : List V} (h : Exc K H a C fs) (hp : H p = some (.lst xs)) (s : SameB p H H') : Exc K H' a C fs := by
  obtain ⟨b, m, T, h⟩ := h
  have n1 : ∀ q d, exo q C d ≠ .lst xs := fun q d z => by
    have z' : HO.ext _ = HO.lst xs := z
    cases z'
  rcases h with ⟨e, h⟩ | ⟨dx, h1, h2⟩
  · exact ⟨b, m, T, .inl ⟨e, s _ _ (fun z => by rw [z, hp] at h; exact n1 _ _ (Option.some.inj h).symm) h⟩⟩
  · refine ⟨b, m, T, .inr ⟨dx, s _ _ (fun z => by rw [z, hp] at h1; exact n1 _ _ (Option.some.inj h1).symm) h1, s _ _ (fun z => ?_) h2⟩⟩
    rw [z, hp] at h2
    have z' : HO.lst xs = HO.ext _ := Option.some.inj h2
    cases z'
/-! values that are the same data, of depth below n -/
def flat : V → Bool
  | .non | .bl _ | .int _ | .str _ => true
  | _ => false
def Sm (K : PySem.W.Frag) : Nat → Hp → V → V → Prop
  | 0, _, _, _ => False
  | n + 1, H, x, y => (x = y ∧ flat x = true) ∨ (∃ (a b : Addr) (xs ys : List V), x = .ref a ∧ y = .ref b ∧ ((SqL K H a xs ∧ SqL K H b ys) ∨ (SqT K H a xs ∧ SqT K H b ys)) ∧ xs.length = ys.length ∧ xs.length ≤ 1000 ∧
      ∀ (i : Nat) (u v : V), xs[i]? = some u → ys[i]? = some v → Sm K n H u v)
theorem seqT {K : PySem.W.Frag} {H H' : Hp} {a : Addr} {xs : List V} (e : Same H H') (h : SqT K H a xs) : SqT K H' a xs := by
  rcases h with (h | ⟨o, h⟩) | h
  · exact .inl (.inl (e _ _ h))
  · exact .inl (.inr ⟨o, e _ _ h⟩)
  · exact .inr h
theorem Sm.same {K : PySem.W.Frag} {H H' : Hp} (e : Same H H') : ∀ {n : Nat} {x y : V}, Sm K n H x y → Sm K n H' x y := by
  intro n
  induction n with
  | zero => intro x y h; exact h
  | succ n ih =>
    intro x y h
    unfold Sm at h ⊢
    rcases h with h | ⟨a, b, xs, ys, h1, h2, h3, h4, h5, h6⟩
    · exact .inl h
    · exact .inr ⟨a, b, xs, ys, h1, h2, h3.imp (fun z => ⟨e.seq z.1, e.seq z.2⟩) (fun z => ⟨seqT e z.1, seqT e z.2⟩), h4, h5, fun i u v p q => ih (h6 i u v p q)⟩
theorem walk_zipT {K : PySem.W.Frag} {a b : Addr} {xs ys : List V} {n : Nat} (hn : n = min xs.length ys.length) : Walk (RZ.ItzT K a b) n (fun H => SqT K H a xs ∧ SqT K H b ys) (YPair (fun i => xs[i]?) (fun i => ys[i]?)) := by
  subst hn
  refine ⟨fun i H hi q => ?_, fun H q => ⟨xs, ys, q.1, q.2, by omega⟩, fun i H x H' hi q y => ?_⟩
  · have h1 : i < xs.length := by omega
    have h2 : i < ys.length := by omega
    exact ⟨xs, ys, xs[i], ys[i], q.1, q.2, List.getElem?_eq_getElem h1, List.getElem?_eq_getElem h2⟩
  · obtain ⟨T, u, v, e1, e2, e3, e4, e5⟩ := y
    exact ⟨T, u, v, e1, e2, e3, e4 _ q.1, e5 _ q.2⟩
theorem tyL {K : PySem.W.Frag} {H : Hp} {a : Addr} {xs : List V} (h : SqL K H a xs) : TyX K H (.ref a) (.type "list") := by
  rcases h with (h | ⟨o, h⟩) | ⟨o, its, n, h1, h2, _⟩
  · exact .base (.lst h)
  · exact .base (.frz h)
  · exact .kList h1 h2
theorem tyT {K : PySem.W.Frag} {H : Hp} {a : Addr} {xs : List V} (h : SqT K H a xs) : TyX K H (.ref a) (.type "tuple") := by
  rcases h with (h | ⟨o, h⟩) | ⟨o, its, n, h1, h2, _⟩
  · exact .base (.tup h)
  · exact .fTuple h
  · exact .kTuple h1 h2
theorem iteC {c : Bool} {A B : Prop} (h : c = true) (a : A) : if c = true then A else B := by rw [h]; exact iteT a
theorem iteD {c : Bool} {A B : Prop} (h : c = false) (b : B) : if c = true then A else B := by rw [h]; exact iteF b
theorem kit2 {K : PySem.W.Frag} {a b c : String} {r1 r2 : Bool} (h1 : kitB a b = some r1) (h2 : kitB a c = some r2) : PySem.W.kitAny K (.type a) [.type b, .type c] = some (r1 || r2) :=
  kitAny_cons (kit_ty h1) (fun e => by subst e; exact kitAny_cons (kit_ty h2) (fun e => by subst e; exact kitAny_nil) (fun e => by subst e; rfl)) (fun e => by subst e; rfl)
/-! list.count of flat items -/
theorem countP_eqU {x : V} : ∀ {xs : List V} {us : List Value}, Vals xs us → xs.all flatV = true → us.countP (eqU x) = xs.countP fun y => eqV y x
  | _, _, .nil, _ => rfl
  | y :: xs, u :: us, .cons r t, f => by
    rw [List.all_cons, Bool.and_eq_true] at f
    rw [List.countP_cons, List.countP_cons, eqU_of r f.1, countP_eqU t f.2]
def rCntF (K : PySem.W.Frag) : V → List V → Hp → VK → Prop := fun x vs H Q => ∃ (p : Addr) (xs : List V) (y : V), x = .ref p ∧ vs = [y] ∧ SqL K H p xs ∧ flatV y = true ∧ xs.all flatV = true ∧ Q (.int ((xs.countP fun z => eqV z y : Nat) : Int)) H
theorem mt_cntF {X : Cx} : MtR X "list.count" (rCntF X.K) := by
  intro pins s σ H x vs v us Q I rx rxs h
  obtain ⟨p, xs, y, rfl, rfl, hs, fy, fx, q⟩ := h
  cases rx
  obtain ⟨u, rfl, ru⟩ := rxs.one
  obtain ⟨its, rv, ⟨⟨cls, dd, data, sl⟩, n, ho, hc, hdn, hd⟩, hlen⟩ := I.list hs
  simp only at hc hd
  subst hc hd
  refine call_meets PySem.F.slot_list_count ⟨_, ho, rfl⟩ PySem.F.entry_list_count (PySem.F.args_list_count_2 _ _)
    (SeqAt.list_countAt p its.toArray n dd sl u (eqU y)) ⟨ho, fun z hz => mem_eqAt ru fy rv fx z (by simpa using hz), ?_⟩
  refine ⟨.int ((xs.countP fun z => eqV z y : Nat) : Int), H, I.tok _, ⟨s.toks, ?_⟩, q⟩
  show Value.int ((its.toArray.toList.countP (eqU y) : Nat) : Int) s.toks = _
  rw [show its.toArray.toList = its by simp, countP_eqU rv fx]
/-- built-in names that the module does not bind -/
structure Blt (mg : Str → Option Value) : Prop where
  isinstance : mg "isinstance" = none
  list : mg "list" = none
  tuple : mg "tuple" = none
  len : mg "len" = none
  all : mg "all" = none
  any : mg "any" = none
  zip : mg "zip" = none
  bool : mg "bool" = none
  str : mg "str" = none
  int : mg "int" = none
  abs : mg "abs" = none
  max : mg "max" = none
  min : mg "min" = none
  range : mg "range" = none
  sorted : mg "sorted" = none
  enumerate : mg "enumerate" = none
  set : mg "set" = none
  sum : mg "sum" = none
  reversed : mg "reversed" = none
  repr : mg "repr" = none
  dict : mg "dict" = none
  ValueError : mg "ValueError" = none
  LookupError : mg "LookupError" = none
  RuntimeError : mg "RuntimeError" = none
  OverflowError : mg "OverflowError" = none
  IndexError : mg "IndexError" = none
  KeyError : mg "KeyError" = none
  NotImplementedError : mg "NotImplementedError" = none
end Ov

set_option Elab.async false
set_option linter.all false
set_option maxRecDepth 100000
set_option maxHeartbeats 4000000
namespace Ov
open PySem L2
/-! lists, numbers -/
theorem erase_int : ∀ (l : List Int) (j : Nat), (l.map V.int).eraseIdx j = (l.eraseIdx j).map V.int
  | [], j => by simp
  | a :: r, 0 => by simp
  | a :: r, j + 1 => by
    rw [List.map_cons, List.eraseIdx_cons_succ, List.eraseIdx_cons_succ, List.map_cons, erase_int r j]
theorem erase_perm : ∀ (l : List Int) (j : Nat) (y : Int), l[j]? = some y → (y :: l.eraseIdx j).Perm l
  | [], j, y, h => by simp at h
  | a :: r, 0, y, h => by
    simp at h
    subst h
    exact List.Perm.refl _
  | a :: r, j + 1, y, h => by
    rw [List.getElem?_cons_succ] at h
    rw [List.eraseIdx_cons_succ]
    exact (List.Perm.swap a y _).trans ((erase_perm r j y h).cons a)
theorem sub_len : ∀ (l ks : List Int), l.Nodup → (∀ x ∈ l, x ∈ ks) → l.length ≤ ks.length
  | [], ks, _, _ => Nat.zero_le _
  | a :: r, ks, nd, h => by
    have ha := h a (List.mem_cons_self ..)
    have nd2 := List.nodup_cons.mp nd
    have ih := sub_len r (ks.erase a) nd2.2 fun x hx => (List.mem_erase_of_ne (fun e : x = a => nd2.1 (e ▸ hx))).mpr (h x (List.mem_cons_of_mem _ hx))
    have e := List.length_erase_of_mem ha
    have p : 0 < ks.length := List.length_pos_of_mem ha
    rw [List.length_cons]
    omega
theorem emod_ne {a M : Int} {i j : Nat} (hM : (j : Int) < M) (hij : i < j) : (a + i) % M ≠ (a + j) % M := fun e => by
  have h1 : ((a + j) - (a + i)) % M = 0 := Int.emod_eq_emod_iff_emod_sub_eq_zero.mp e.symm
  have h2 : (a + j) - (a + i) = (j : Int) - i := by omega
  rw [h2, Int.emod_eq_of_lt (by omega) (by omega)] at h1
  omega
/-- among k + 1 steps round the M numbers one is free -/
theorem free_step (ks : List Int) (a M : Int) (hM : (ks.length : Int) < M) : ∃ m : Nat, (a + m) % M + 1 ∉ ks := by
  refine Classical.byContradiction fun no => ?_
  have all : ∀ m : Nat, (a + m) % M + 1 ∈ ks := fun m => Classical.byContradiction fun h => no ⟨m, h⟩
  have nd : ((List.range (ks.length + 1)).map fun m : Nat => (a + m) % M + 1).Nodup := by
    refine List.pairwise_map.mpr ?_
    refine List.Pairwise.imp_of_mem ?_ List.pairwise_lt_range
    intro i j hi hj hij e
    have hj' := List.mem_range.mp hj
    exact emod_ne (a := a) (M := M) (by omega) hij (by omega)
  have h := sub_len _ ks nd fun x hx => by
    obtain ⟨m, _, rfl⟩ := List.mem_map.mp hx
    exact all m
  rw [List.length_map, List.length_range] at h
  omega
theorem step_mod {x M : Int} (hM : 0 < M) : ((x % M + 1) % M) + 1 = (x + 1) % M + 1 := by
  rw [Int.emod_add_emod]
/-! ints as data -/
def dInts (ns : List Int) : PyData := .list (ns.map .int)
theorem dpAll_ints {K : PySem.W.Frag} {H : Hp} : ∀ ns : List Int, DpAll K H (ns.map V.int) (ns.map PyData.int)
  | [] => .nil
  | n :: r => .cons (.int n) (dpAll_ints r)
theorem dp_ints {K : PySem.W.Frag} {H : Hp} {p : Addr} {ns : List Int} (h : SqL K H p (ns.map V.int)) : Dp K H (.ref p) (dInts ns) := .lst h (dpAll_ints ns)
theorem dp_intsT {K : PySem.W.Frag} {H : Hp} {p : Addr} {ns : List Int} (h : SqT K H p (ns.map V.int)) : Dp K H (.ref p) (.tuple (ns.map .int)) := .tup h (dpAll_ints ns)
theorem lay_ints : ∀ ns : List Int, PyData.canLayAll0 (ns.map PyData.int) = true
  | [] => rfl
  | n :: r => by
    show (PyData.canLay0 (.int n) && PyData.canLayAll0 (r.map PyData.int)) = true
    rw [lay_ints r]
    rfl
theorem depth_ints : ∀ ns : List Int, PyData.depthAll (ns.map PyData.int) ≤ 1
  | [] => Nat.zero_le _
  | n :: r => by
    have ih := depth_ints r
    show max (PyData.depth (.int n)) (PyData.depthAll (r.map PyData.int)) ≤ 1
    have e : PyData.depth (.int n) ≤ 1 := by
      first
        | exact Nat.zero_le _
        | exact Nat.le_refl _
    omega
theorem sh_ints (ns : List Int) : SeqAt.shaped (dInts ns) = true := by
  unfold SeqAt.shaped
  have h1 : PyData.canLay0 (dInts ns) = true := lay_ints ns
  have h2 : PyData.depth (dInts ns) ≤ 64 := by
    have := depth_ints ns
    show PyData.depthAll (ns.map PyData.int) + 1 ≤ 64
    omega
  rw [h1, decide_eq_true h2]
  rfl
theorem sh_intsT (ns : List Int) : SeqAt.shaped (.tuple (ns.map .int)) = true := by
  unfold SeqAt.shaped
  have h1 : PyData.canLay0 (.tuple (ns.map .int)) = true := lay_ints ns
  have h2 : PyData.depth (.tuple (ns.map .int)) ≤ 64 := by
    have := depth_ints ns
    show PyData.depthAll (ns.map PyData.int) + 1 ≤ 64
    omega
  rw [h1, decide_eq_true h2]
  rfl
theorem eqv_nil (ns : List Int) : PyData.eqv (dInts ns) (.list []) = ns.isEmpty := by
  cases ns with
  | nil => rfl
  | cons n r => rfl
theorem eqv_ints : ∀ ns ms : List Int, PyData.eqv (dInts ns) (dInts ms) = decide (ns = ms)
  | [], [] => rfl
  | [], m :: r => by rw [decide_eq_false (by simp)]; rfl
  | n :: r, [] => by rw [decide_eq_false (by simp)]; rfl
  | n :: r, m :: q => by
    have ih := eqv_ints r q
    have e : PyData.eqv (dInts (n :: r)) (dInts (m :: q)) = (PyData.eqv (.int n) (.int m) && PyData.eqv (dInts r) (dInts q)) := by
      simp [dInts, PyData.eqv, PyData.eqvAll]
    rw [e, ih]
    by_cases h : n = m
    · subst h
      simp [PyData.eqv]
    · have e2 : PyData.eqv (.int n) (.int m) = false := by simp [PyData.eqv, h]
      rw [e2, decide_eq_false (show ¬ (n :: r = m :: q) from fun z => h (List.cons.inj z).1)]
      rfl
/-! dicts of numbers, all True -/
def kvs (ks : List Int) : List (Key × V) := ks.map fun k => (Sum.inl k, .bl true)
theorem kvs_keys (ks : List Int) : (kvs ks).map (·.1) = ks.map Sum.inl := by
  unfold kvs
  rw [List.map_map]
  rfl
theorem kvs_val (ks : List Int) (k : Int) : (valV (kvs ks) (Sum.inl k)).isSome = decide (k ∈ ks) := by
  rw [← valV_any]
  unfold kvs
  rw [List.any_map]
  by_cases h : k ∈ ks
  · rw [decide_eq_true h]
    exact List.any_eq_true.mpr ⟨k, h, decide_eq_true rfl⟩
  · rw [decide_eq_false h]
    refine List.any_eq_false.mpr fun x hx e => h ?_
    have e2 : (Sum.inl x : Key) = Sum.inl k := of_decide_eq_true e
    cases e2
    exact hx
theorem kvs_put {ks : List Int} {k : Int} (h : k ∉ ks) : putK (kvs ks) (Sum.inl k) (.bl true) = kvs (ks ++ [k]) := by
  have e : valV (kvs ks) (Sum.inl k) = none := by
    have z := kvs_val ks k
    rw [decide_eq_false h] at z
    cases q : valV (kvs ks) (Sum.inl k) with
    | none => rfl
    | some v => rw [q] at z; cases z
  rw [putK_new _ e]
  unfold kvs
  rw [List.map_append]
  rfl
theorem sort_lt : ∀ {l : List Int}, l.Pairwise (· ≤ ·) → l.Nodup → l.Pairwise (· < ·)
  | [], _, _ => .nil
  | a :: r, h, n => by
    have h' := List.pairwise_cons.mp h
    have n' := List.nodup_cons.mp n
    refine List.pairwise_cons.mpr ⟨fun b hb => ?_, sort_lt h'.2 n'.2⟩
    have := h'.1 b hb
    have ne : a ≠ b := fun e => n'.1 (e ▸ hb)
    omega
theorem sqL_sameB {K : PySem.W.Frag} {H H' : Hp} {p a : Addr} {xs : List V} (h : SqL K H a xs) (n : a ≠ p) (s : SameB p H H') : SqL K H' a xs := by
  rcases h with (h | ⟨o, h⟩) | h
  · exact .inl (.inl (s _ _ n h))
  · exact .inl (.inr ⟨o, s _ _ n h⟩)
  · exact .inr h
theorem sqT_sameB {K : PySem.W.Frag} {H H' : Hp} {p a : Addr} {xs : List V} (h : SqT K H a xs) (n : a ≠ p) (s : SameB p H H') : SqT K H' a xs := by
  rcases h with (h | ⟨o, h⟩) | h
  · exact .inl (.inl (s _ _ n h))
  · exact .inl (.inr ⟨o, s _ _ n h⟩)
  · exact .inr h
theorem seq_ix {v : Int} {n : Nat} (h0 : 0 ≤ v) (h1 : v < n) : seqIndex? v n = some v.toNat := by
  unfold seqIndex?
  simp only [show ¬ v < 0 by omega, if_false]
  first
    | rw [if_pos (by omega)]
    | rw [if_neg (by omega)]
    | (rw [if_pos (by simp; omega)])
    | (rw [if_neg (by simp; omega)])
end Ov

set_option Elab.async false
set_option linter.all false
set_option maxRecDepth 100000
set_option maxHeartbeats 4000000
namespace OvX
open PySem PySem.W PySem.Calls PyProof.Rows PySem.HandSPX
/-! a tuple of classes in an except clause -/
theorem forIn_pass {M : Model} {A : Around} {E : Value → Shared → Prop} {β : Type} {b : β} {f : Value → β → Sem (ForInStep β)} {s : Shared} {Q : β → Shared → Prop} :
    ∀ {cs : List Value}, (∀ c ∈ cs, ∀ Q' : ForInStep β → Shared → Prop, Q' (.yield b) s → wpAny M A (f c b) Q' E s) → Q b s → wpAny M A (forIn cs b f) Q E s
  | [], _, q => by
    rw [List.forIn_nil]
    exact wpAny_pure q
  | c :: r, h, q => by
    rw [List.forIn_cons]
    refine wpAny_bind (h c (List.mem_cons_self ..) _ ?_)
    exact forIn_pass (cs := r) (fun c' hc => h c' (List.mem_cons_of_mem _ hc)) q
theorem forIn_seek {M : Model} {A : Around} {E : Value → Shared → Prop} {β : Type} {b d : β} {f : Value → β → Sem (ForInStep β)} {t : Value → Bool} {s : Shared} {Q : β → Shared → Prop} :
    ∀ {cs : List Value}, (∀ c ∈ cs, ∀ Q' : ForInStep β → Shared → Prop, Q' (if t c = true then .done d else .yield b) s → wpAny M A (f c b) Q' E s) → Q (if cs.any t = true then d else b) s → wpAny M A (forIn cs b f) Q E s
  | [], _, q => by
    rw [List.forIn_nil]
    exact wpAny_pure q
  | c :: r, h, q => by
    rw [List.forIn_cons]
    refine wpAny_bind (h c (List.mem_cons_self ..) _ ?_)
    rw [List.any_cons] at q
    cases e : t c with
    | true =>
      rw [e] at q
      exact wpAny_pure q
    | false =>
      rw [e] at q
      exact forIn_seek (cs := r) (fun c' hc => h c' (List.mem_cons_of_mem _ hc)) q
theorem exm_tupN {M : Model} {K : Frag} {cls : Value} {tp e : Addr} {cs : List Value} {h : Heap} (t : Value → Bool) (X : K.In h) (LT : Looks M h (typeOf (.ref e)) cls) (hp : h.get? tp = some { cls := .type "tuple", data := .seq cs.toArray }) (hx : ∀ c ∈ cs, exmOne K cls c = some (t c)) :
    Looks M h (excMatches (.ref e) (.ref tp)) (cs.any t) := by
  intro A Q E s k q
  obtain ⟨hh, g, d, tk, os⟩ := s
  have k : ∀ b o, h.get? b = some o → hh.get? b = some o := k
  have L0 : Looks M h (isInstance (.ref tp) (.type "tuple")) true := ((Looks.ld hp).andThen .now).andThen (Looks.of_pure isSubtype_tuple_tuple)
  have L0 := L0.keeps k
  have LT := LT.keeps k
  have hp' := k _ _ hp
  have ec : ∀ c ∈ cs, Looks M hh (isExcClass c) true ∧ Looks M hh (isSubtype cls c) (t c) := fun c hc => by
    obtain ⟨a, b⟩ := exm_cls (M := M) X (hx c hc)
    exact ⟨a.keeps k, b.keeps k⟩
  unfold excMatches
  refine wpAny_bind (L0.at ?_)
  dsimp only
  rw [if_pos rfl]
  first
    | refine wpAny_bind (wpAny_seqItems hp' rfl ?_)
    | refine wpAny_bind (wpAny_bind (wpAny_seqItems hp' rfl (wpAny_pure ?_)))
  dsimp only [Option.getD_some, Option.getD]
  refine wpAny_bind (wpAny_pure ?_)
  refine wpAny_bind (forIn_pass (fun c hc Q' q' => ?_) ?_)
  · refine wpAny_bind ((ec c hc).1.at ?_)
    rw [if_neg (by decide)]
    exact wpAny_pure q'
  refine wpAny_bind (LT.at ?_)
  refine wpAny_bind (forIn_seek (t := t) (d := (some true, ())) (fun c hc Q' q' => ?_) ?_)
  · refine wpAny_bind ((ec c hc).2.at ?_)
    cases e : t c with
    | true =>
      rw [e] at q'
      exact wpAny_pure q'
    | false =>
      rw [e] at q'
      exact wpAny_pure q'
  · cases e : cs.any t with
    | true =>
      rw [e] at q
      exact wpAny_pure q
    | false =>
      rw [e] at q
      exact wpAny_pure q
end OvX
namespace Ov
open PySem L2
/-- an exception that was caught, of the class at C, its dict d -/
def exg (a C : Addr) (d : Option Addr) : HO := .ext fun h => ∃ (oe : Obj) (vs : Array Value), h.get? a = some oe ∧ oe.cls = .ref C ∧ oe.dict = d ∧ oe.data = .fields vs
theorem exg_ok {P : Program} {w : World} {H : Hp} {h : Heap} {a C : Addr} {d : Option Addr} {oe : Obj} {vs : Array Value} (e : h.get? a = some oe) (c : oe.cls = .ref C) (hd : oe.dict = d) (hf : oe.data = .fields vs) : ObjOk P w H h a (exg a C d) :=
  ⟨⟨oe, vs, e, c, hd, hf⟩, ⟨oe, e⟩, fun h1 h2 z k => by
    obtain ⟨o, v, q, r⟩ := z
    exact ⟨o, v, k _ q, r⟩⟩
theorem exg_at {P : Program} {w : World} {H : Hp} {h : Heap} {a C : Addr} {d : Option Addr} (hok : HOk P w H h) (e : H a = some (exg a C d)) : ∃ (oe : Obj) (vs : Array Value), h.get? a = some oe ∧ oe.cls = .ref C ∧ oe.dict = d ∧ oe.data = .fields vs := by
  have x : ObjOk P w H h a (.ext fun h => ∃ (oe : Obj) (vs : Array Value), h.get? a = some oe ∧ oe.cls = .ref C ∧ oe.dict = d ∧ oe.data = .fields vs) := hok a _ e
  exact x.1
section
variable {X : Cx} {pins : List (Addr × Obj)} {σ : L2.St} {H : Hp} {s : Shared}
/-- an object that came up since the def began may be tracked -/
theorem track {a C : Addr} {d : Option Addr} {oe : Obj} {vs : Array Value} (I : Inv X pins σ H s) (na : H a = none) (he : s.heap.get? a = some oe) (c : oe.cls = .ref C) (hd : oe.dict = d) (hf : oe.data = .fields vs) (new : X.s_0.heap.get? a = none) (nL : a ≠ X.env.locals) (np : ∀ p ∈ X.pn ++ pins, p.1 ≠ a) :
    Inv X pins σ (upd H a (exg a C d)) s := by
  have ne : ∀ b o, X.s_0.heap.get? b = some o → b ≠ a := fun b o e z => by
    rw [z, new] at e
    cases e
  have nh : ∀ b o, H b = some o → b ≠ a := fun b o e z => by
    rw [z, na] at e
    cases e
  refine ⟨I.ok, I.os, I.bare, ⟨I.base.keep, I.base.slot, fun b o e n hx => ?_, I.base.there, fun b xs e => ?_, fun b o u e => ?_, fun b ps e => ?_⟩, I.loc, I.cell, ?_, fun x q e => ?_, fun p hp => ?_, fun b o e => ?_, I.len⟩
  · rw [upd_ne (ne b o e)]
    exact I.base.free b o e n hx
  · have q := I.base.tups b xs e
    rw [upd_ne (nh b _ q)]
    exact q
  · have q := I.base.frzs b o u e
    rw [upd_ne (nh b _ q)]
    exact q
  · obtain ⟨m, q⟩ := I.base.tbls b ps e
    refine ⟨m, ?_⟩
    rw [upd_ne (nh b _ q)]
    exact q
  · rw [upd_ne (Ne.symm nL)]
    exact I.free
  · have nq : q ≠ a := fun z => by
      obtain ⟨v, o, ho, hdt⟩ := I.cell x q e
      rw [z, he] at ho
      cases ho
      rw [hf] at hdt
      cases hdt
    rw [upd_ne nq]
    exact I.freeC x q e
  · obtain ⟨e1, e2, e3, e4, e5⟩ := I.pin p hp
    refine ⟨e1, ?_, e3, e4, e5⟩
    rw [upd_ne (np p hp)]
    exact e2
  · by_cases hb : b = a
    · subst hb
      rw [upd_same] at e
      cases e
      exact exg_ok he c hd hf
    · rw [upd_ne hb] at e
      refine (I.hok b o e).stay (fun c v _ z => z) (fun c hc => ?_) (fun c xs hc => ?_)
      · rw [upd_ne (nh c _ hc)]
        exact hc
      · rw [upd_ne (nh c _ hc)]
        exact hc
end
/-- names of classes, one after the other -/
inductive Nms (X : Cx) : List Expr → List Value → Prop where
  | nil : Nms X [] []
  | cons {x : Str} {p : Pos} {c : Value} {es : List Expr} {cs : List Value} (hg : Gl X x) (hd : (x == ("__debug__" : Str)) = false) (hm : X.mg x = some c) (he : starEach (.Name x p :: es) X.env = (false, eval (.Name x p) X.env) :: starEach es X.env) (r : Nms X es cs) : Nms X (.Name x p :: es) (c :: cs)
theorem Nms.run {X : Cx} {pins : List (Addr × Obj)} {σ : L2.St} {H : Hp} {s : Shared} {E : Value → Shared → Prop} {pos : Pos} (I : Inv X pins σ H s) : ∀ {es : List Expr} {cs : List Value} {Q : List Value → Shared → Prop}, Nms X es cs → Q cs s → wpAny (model X.prog X.w) X.A (spliced (backTo pos (starEach es X.env))) Q E s
  | _, _, _, .nil, q => wpAny_items_nil q
  | _, _, _, .cons hg hd hm he r, q => wpAny_items_cons (ld_glob I hg hm (Nms.run I r q) hd) he
theorem Nms.suite {X : Cx} {a : Addr} {pn : List (Addr × Obj)} : ∀ {es : List Expr} {cs : List Value}, Nms X es cs → Nms (X.suite a pn) es cs
  | _, _, .nil => .nil
  | _, _, .cons hg hd hm he r => .cons hg hd hm he r.suite
theorem flying_keeps {B h h' : Heap} {l : List Env} {a : Addr} {Z : Obj → Prop} (x : HandSPX.FlyingZ B l a Z h) (k : ∀ b o, h.get? b = some o → h'.get? b = some o) : HandSPX.FlyingZ B l a Z h' := by
  obtain ⟨h1, h2, h3, oe, vs, T, oT, ts, he, hz, hd, hv, hB, hT, hg, hdT, hf⟩ := x
  exact ⟨fun b o e => k b o (h1 b o e), h2, Heap.FunFrames.of_keeps (fun b o e _ => ⟨o, k b o e, rfl⟩) h3, oe, vs, T, oT, ts, k _ _ he, hz, hd, hv, hB, hT, k _ _ hg, hdT, hf⟩
/-- what such a try wishes of an exception of the body: it is caught, held by slot i in the suite, and kept behind it -/
def wKeep (t : Value → Value → Bool) (K : PySem.W.Frag) (cs : List Value) (i : Nat) (ts : Addr → Value → Option Addr → TS) (D : Ends) : WX := fun cls d σ H =>
  ∃ C : Addr, cls = .ref C ∧ (∀ c ∈ cs, PySem.W.exmOne K cls c = some (t cls c)) ∧ cs.any (t cls) = true ∧
    ∀ a, H a = none → ts a cls d { nx := fun σ' H' => D.nx (σ'.set i none) (upd H' a (exg a C d)), rt := fun _ _ => False, bk := fun _ _ => False, ct := fun _ _ => False } (σ.set i (some (.ref a))) H
section
variable {X : Cx} {n : Str} {cs : List Value} {i : Nat} {body suite : List Stmt} {b₀ : Stmt} {elts : List Expr} {kk : Nat} {tpos pos pos' : Pos} {tb : WX → TS} {ts : Addr → Value → Option Addr → TS} {t : Value → Value → Bool}
theorem ps_keep (hs : X.stack = X.env :: X.outer) (hf : X.env.frame = some X.env.locals) (hex : X.ex = []) (hN : X.N.Nodup) (hi : X.N[i]? = some n) (hln : X.env.kindOf n = some .local) (hc : Nms X elts cs) (hz : cs.length ≤ sizeLine)
    (hb : ∀ (W : WX) (pn : List (Addr × Obj)) (xe : Value → Shared → Prop), Takes (X.tr pn xe) W → PassesOwn (model X.prog X.w) X.A X.env xe → PSs (X.tr pn xe) body (tb W))
    (hsu : ∀ (a : Addr) (oe : Obj) (cls : Value) (d : Option Addr) (pn : List (Addr × Obj)), Zc cls d oe → (∃ vs, oe.data = .fields vs) → PSs (X.suite a ((a, oe) :: pn)) (b₀ :: suite) (ts a cls d)) :
    PS X (.Try body [.ExceptHandler (some (.Tuple elts kk tpos)) (some n) (b₀ :: suite) pos'] [] [] pos) (fun D σ H => tb (wKeep t X.K cs i ts D) D σ H) := by
  refine ⟨fun pins s σ H D I h => ?_⟩
  have ok := I.ok
  have hfr : X.A.frames = some (X.env :: X.outer) := by rw [ok.frames, hs]
  have hloc : Loc X.env.scope n := .inl hln
  refine wpAny_Try_except ?_
  refine wpAny_mono ((hb (wKeep t X.K cs i ts D) (X.pn ++ pins) (fun e s₁ => wpAny (model X.prog X.w) X.A (noteFrame e X.env) (fun _ s₂ => wpAny (model X.prog X.w) X.A (setFlight e none) (fun _ s₃ =>
    wpAny (model X.prog X.w) X.A (handleBy e X.env [.ExceptHandler (some (.Tuple elts kk tpos)) (some n) (b₀ :: suite) pos']) (SP X pins D) X.xe s₃) X.xe s₂) X.xe s₁) (fun u s' xx => ?_) PassesOwn.looking).run [] s σ H D (I.toTry _) h) (fun f s1 hsp => ?_) (fun e s1 he => he)
  · obtain ⟨a, B, sI, pins', σ', H', cls, d, rfl, J', nb, up, sky, na, os, ag, C, rfl, hx, hany, hyes⟩ := xx
    have J : Inv X pins σ' H' sI := J'.ofTry ok
    have sky' : Sky B (X.env :: X.outer) a (Zc (.ref C) d) X.env.locals s'.heap := by rw [← hs]; exact sky
    show wpAny (model X.prog X.w) X.A (noteFrame (.ref a) X.env) _ _ _
    refine Sky.land Zc.steady hfr hf sky' fun h3 fl3 up3 => ?_
    have J3 : Inv X pins σ' H' { s' with heap := h3 } := J.landed nb fl3.1 (up.trans up3) os ag
    obtain ⟨oe3, vs3, he3, hz3, hd3⟩ := fl3.there
    have nfr : a ∉ frs (X.env :: X.outer) := fun hm => by
      obtain ⟨_, o', e', hnf⟩ := fl3.2.2.1.mem hm
      rw [he3] at e'
      cases e'
      exact hnf _ hd3
    have nL : a ≠ X.env.locals := fun z => nfr (List.mem_filterMap.mpr ⟨X.env, List.mem_cons_self, by rw [hf, z]⟩)
    have nF : a ∉ X.fs := fun hm => by
      obtain ⟨e, he, q⟩ := List.mem_filterMap.mp hm
      exact nfr (List.mem_filterMap.mpr ⟨e, List.mem_cons_of_mem _ he, q⟩)
    have Ba : B.get? a = none := fl3.2.1
    have nS : a ∉ frs X.stack := by rw [hs]; exact nfr
    have new : X.s_0.heap.get? a = none := by
      cases e : X.s_0.heap.get? a with
      | none => rfl
      | some o =>
        obtain ⟨o', q⟩ := J.base.there a o e (by rw [hex]; exact fun z => nomatch z)
        have z := nb a o' q nS
        rw [Ba] at z
        cases z
    have npin : ∀ p ∈ X.pn ++ pins, p.1 ≠ a := fun p hp z => by
      obtain ⟨e1, _⟩ := J.pin p hp
      rw [z] at e1
      have y := nb a _ e1 nS
      rw [Ba] at y
      cases y
    have S3 := J3.suite he3 hd3 na nL nF
    refine wpAny_handleBy_cons (codeAny_handlers_test ?_) (by intro q; cases q)
    refine wpAny_Tuple ?_
    refine Nms.run (X := X.suite a ((a, oe3) :: (X.pn ++ pins))) S3 hc.suite ⟨hz, ?_⟩
    have kp : ∀ b o, h3.get? b = some o → (h3.push { cls := .type "tuple", data := .seq cs.toArray }).get? b = some o := fun _ _ z => Heap.get?_push_of_some _ z
    have LT : PySem.W.Looks (model X.prog X.w) h3 (typeOf (.ref a)) (.ref C) := fun A Q E s k q => wpAny_typeOf_ref (k _ _ he3) (by rw [hz3.1]; exact q)
    have LM := OvX.exm_tupN (M := model X.prog X.w) (tp := h3.objs.size) (t (.ref C)) (J3.kIn.keeps kp) (LT.keeps kp) (Heap.get?_push_size h3 rfl) hx
    rw [hany] at LM
    refine LM.here ?_
    refine codeAny_handlers_suite_as ?_
    refine HandSPX.lands_againZ (flying_keeps fl3 kp) fun h4 fl4 up4 => ?_
    have up34 : h3.UpToSlots h4 := (Heap.UpToSlots.of_keeps kp).trans up4
    have J4 : Inv X pins σ' H' { s' with heap := h4 } := J.landed nb fl4.1 ((up.trans up3).trans up34) os ag
    obtain ⟨oe4, vs4, he4, hz4, hd4⟩ := fl4.there
    have S4 := J4.suite he4 hd4 na nL nF
    refine store_ok (X := X.suite a ((a, oe4) :: (X.pn ++ pins))) (v := .ref a) S4 hN hi hloc rfl (fun s5 S5 => ?_) (.inr hln)
    refine wpAny_mono ((hsu a oe4 (.ref C) d (X.pn ++ pins) hz4 ⟨_, hd4⟩).run [] s5 _ H' _ S5 (hyes a na)) (fun f s6 hsp => ?_) (fun _ _ z => False.elim z)
    cases f with
    | next =>
      obtain ⟨σ6, H6, S6, q6⟩ := hsp
      refine gone_ok (X := X.suite a ((a, oe4) :: (X.pn ++ pins))) S6 hN hi hln fun s7 S7 => ?_
      obtain ⟨g1, g2, _⟩ := S7.pin (a, oe4) (List.mem_append_left _ List.mem_cons_self)
      have J7 : Inv X pins (σ6.set i none) H6 s7 := S7.unsuite ok
      exact ⟨_, _, track J7 g2 g1 hz4.1 hz4.2 hd4 new nL npin, q6⟩
    | brk =>
      obtain ⟨σ6, H6, S6, q6⟩ := hsp
      exact False.elim q6
    | cont =>
      obtain ⟨σ6, H6, S6, q6⟩ := hsp
      exact False.elim q6
    | ret u =>
      obtain ⟨v6, σ6, H6, S6, r6, q6⟩ := hsp
      exact False.elim q6
  · cases f with
    | next =>
      obtain ⟨σ', H', J', q⟩ := hsp
      exact wpAny_execs_nil ⟨σ', H', J'.ofTry ok, q⟩
    | brk =>
      obtain ⟨σ', H', J', q⟩ := hsp
      exact ⟨σ', H', J'.ofTry ok, q⟩
    | cont =>
      obtain ⟨σ', H', J', q⟩ := hsp
      exact ⟨σ', H', J'.ofTry ok, q⟩
    | ret u =>
      obtain ⟨v, σ', H', J', r, q⟩ := hsp
      exact ⟨v, σ', H', J'.ofTry ok, r, q⟩
end
end Ov

set_option Elab.async false
set_option linter.all false
set_option maxRecDepth 100000
set_option maxHeartbeats 4000000
namespace Ov
open PySem L2
abbrev tlValueError : List Value := [.type "ValueError", .type "Exception", .type "BaseException", .type "object"]
abbrev tlLookupError : List Value := [.type "LookupError", .type "Exception", .type "BaseException", .type "object"]
abbrev tlRuntimeError : List Value := [.type "RuntimeError", .type "Exception", .type "BaseException", .type "object"]
abbrev tlOverflowError : List Value := [.type "OverflowError", .type "ArithmeticError", .type "Exception", .type "BaseException", .type "object"]
/-- self.f = v -/
def spIni (K : PySem.W.Frag) (C : Addr) (bmB : List Value) (newId : String) (f : Str) : Sp := fun vs H Q _ => ∃ (a : Addr) (v : V), vs = [.ref a, v] ∧ OvX.ExK K C bmB newId ∧ PySem.W.findIn K (.ref C) f = some none ∧ H a = some (exo a C none) ∧
  ∀ dx, H dx = none → dx ≠ a → Q .non (upd (upd H dx (exd dx [(f, v)])) a (exo a C (some dx)))
/-- Contradiction(cycle), cycle a list -/
def spCon (K : PySem.W.Frag) (C : Addr) : Sp := fun vs H Q _ => ∃ (a p : Addr) (xs : List V), vs = [.ref a, .ref p] ∧ OvX.ExK K C tlValueError "ValueError.__new__" ∧ PySem.W.findIn K (.ref C) "cycle" = some none ∧ SqL K H p xs ∧ H a = some (exo a C none) ∧
  ∀ H2 l, Same H H2 → H l = none → H2 l = some (.lst xs) → ∀ dx, H2 dx = none → dx ≠ a → Q .non (upd (upd H2 dx (exd dx [("cycle", .ref l)])) a (exo a C (some dx)))
/-- Blocked(pair), pair a tuple -/
def spBlo (K : PySem.W.Frag) (C : Addr) : Sp := fun vs H Q _ => ∃ (a p : Addr) (xs : List V), vs = [.ref a, .ref p] ∧ OvX.ExK K C tlRuntimeError "RuntimeError.__new__" ∧ PySem.W.findIn K (.ref C) "pair" = some none ∧ SqT K H p xs ∧ H a = some (exo a C none) ∧
  ∀ dx, H dx = none → dx ≠ a → Q .non (upd (upd H dx (exd dx [("pair", .ref p)])) a (exo a C (some dx)))
def spOth : Sp := fun vs H Q _ => ∃ v, vs = [v] ∧ Q .non H
def tl : Nat → List Value
  | 0 => tlValueError
  | 1 => tlLookupError
  | 2 => tlRuntimeError
  | _ => tlOverflowError
def nw : Nat → String
  | 0 => "ValueError.__new__"
  | 1 => "LookupError.__new__"
  | 2 => "RuntimeError.__new__"
  | _ => "OverflowError.__new__"
structure Cl (K : PySem.W.Frag) (C : Addr) (k : Nat) : Prop where
  ex : OvX.ExK K C (tl k) (nw k)
  mro : (PySem.W.clsIn K C).map (·.mro) = some (.ref C :: tl k)
  ty : PySem.W.typeIn K (.ref C) = some (.type "type")
theorem tl_ref (k : Nat) (D : Addr) : (tl k).contains (.ref D) = false := by
  match k with
  | 0 => rfl
  | 1 => rfl
  | 2 => rfl
  | _ + 3 => rfl
theorem Cl.sub {K : PySem.W.Frag} {C : Addr} {k : Nat} (x : Cl K C k) (v : Value) : PySem.W.subIn K (.ref C) v = some ((Value.ref C :: tl k).contains v) := by
  obtain ⟨cd, h1, h2⟩ := Option.map_eq_some_iff.mp x.mro
  show PySem.W.mroIn K C v = _
  unfold PySem.W.mroIn
  rw [h1, Option.bind_some, h2]
  rfl
theorem Cl.own {K : PySem.W.Frag} {C D : Addr} {k j : Nat} (x : Cl K C k) (y : Cl K D j) : PySem.W.kitOne K (.ref C) (.ref D) = some (decide (C = D)) := by
  unfold PySem.W.kitOne
  by_cases h : C = D
  · subst h
    rw [if_pos (beq_self_eq_true _), decide_eq_true rfl]
  · have e : (Value.ref C == Value.ref D) = false := beq_eq_false_iff_ne.mpr fun z => h (Value.ref.inj z)
    rw [e, if_neg Bool.false_ne_true, decide_eq_false h]
    obtain ⟨cd, h1, h2⟩ := Option.map_eq_some_iff.mp y.mro
    show (if ((PySem.W.clsIn K D).isSome && PySem.W.typeIn K (.ref D) == some (.type "type")) = true then PySem.W.subIn K (.ref C) (.ref D) else none) = some false
    rw [h1, y.ty, if_pos (by rfl), x.sub, List.contains_cons, tl_ref]
    rw [show (Value.ref D == Value.ref C) = false from beq_eq_false_iff_ne.mpr fun z => h (Value.ref.inj z).symm]
    rfl
theorem Cl.bas {K : PySem.W.Frag} {C : Addr} {k : Nat} (x : Cl K C k) (T : String) (b : Bool) (hm : PySem.W.kitMeta T = true) (hb : (tl k).contains (.type T) = b) : PySem.W.kitOne K (.ref C) (.type T) = some b := by
  unfold PySem.W.kitOne
  rw [show (Value.ref C == Value.type T) = false from rfl, if_neg Bool.false_ne_true]
  show (if PySem.W.kitMeta T = true then PySem.W.subIn K (.ref C) (.type T) else none) = some b
  rw [if_pos hm, x.sub, List.contains_cons, hb, show (Value.type T == Value.ref C) = false from rfl, Bool.false_or]
theorem kbn_of {K : PySem.W.Frag} {x qual : Str} {st : Stmt} {f : Addr} {fd : FuncData} {ps : List Str} (F : Fun K x qual st f fd) (n : Nat) (ks : List Str)
    (h : ∀ (kV doc pm : Value) (an : Option Addr) (cdv ct : Value) (us ws : List Value), us.length = n → ws.length = ks.length → bindArgs (PySem.W.fnOf x qual (defArgs st) (defBody st) (defScope st) .none kV doc pm an cdv ct) ⟨us, ks.zip ws⟩ = pure (ps.zip (us ++ ws))) :
    KBn K fd ps n ks (fun us ws => us ++ ws) (fun vs zs => vs ++ zs) := by
  obtain ⟨oc, od, kV, doc, pm, an, cdv, ct, osl, rfl, lk, hcd⟩ := F.ex
  exact ⟨fun s us ws _ l1 l2 => .of_eq (h kV doc pm an cdv ct us ws l1 l2), fun r1 r2 => r1.append r2⟩
theorem exb (k : Nat) : ∃ B initId, ExcBaseFacts B (nw k) initId (tl k) := by
  match k with
  | 0 => exact ⟨_, _, PySem.F.excBase_ValueError⟩
  | 1 => exact ⟨_, _, PySem.F.excBase_LookupError⟩
  | 2 => exact ⟨_, _, PySem.F.excBase_RuntimeError⟩
  | _ + 3 => exact ⟨_, _, PySem.F.excBase_OverflowError⟩
def E0 : XK := fun _ _ _ => False
/-- the class x at C and its __init__(self, f) -/
structure MkE (P : Program) (w : World) (K : PySem.W.Frag) (mg : Str → Option Value) (base : Heap) (C : Addr) (k : Nat) (x f : Str) (sp : Sp) : Prop where
  cl : Cl K C k
  mgC : mg x = some (.ref C)
  no : PySem.W.findIn K (.ref C) f = some none
  ini : ∃ (fI : Addr) (fd : FuncData), PySem.W.findIn K (.ref C) "__init__" = some (some (.ref fI)) ∧ PySem.W.typeIn K (.ref fI) = some (.type "function") ∧ FnOk P w K mg base CX0 1 fI fd ["self", f] sp ∧
    KBn K fd ["self", f] 2 [] (fun us ws => us ++ ws) (fun vs zs => vs ++ zs) ∧ KBn K fd ["self", f] 1 [f] (fun us ws => us ++ ws) (fun vs zs => vs ++ zs)
/-- how a value becomes an exception -/
abbrev RN := V → Hp → (Addr → Hp → Prop) → Prop
def tNew (R : RN) (t : TA) : TE := fun σ H Q => t σ H fun vs H1 => ∃ v, vs = [v] ∧ R v H1 fun a H2 => Q (.ref a) H2
/-- the promise of __init__ serves R -/
def Serves (C : Addr) (sp : Sp) (R : RN) : Prop := ∀ (v : V) (H : Hp) (Q : Addr → Hp → Prop) (a : Addr), R v H Q → H a = none → sp [.ref a, v] (upd H a (exo a C none)) (fun r H3 => r = .non ∧ Q a H3) E0
section
variable {X : Cx} {k : Nat} {C : Addr} {sp : Sp} {x f : Str} {p pos kpos : Pos} {e : Expr} {t : TA} {te : TE} {R : RN}
theorem pe_new (M : MkE X.prog X.w X.K X.mg X.base C k x f sp) (hs : Serves C sp R) (hr : Room 2 X.A) (hg : Gl X x) (ha : PA X [e] t)
    (hdb : (x == ("__debug__" : Str)) = false := by decide) (he : starEach [e] X.env = (false, eval e X.env) :: starEach [] X.env := by rfl) (hpl : (backTo pos (starEach [] X.env)).any (·.1) = false := by rfl) :
    PE X (.Call (.Name x p) [e] [] pos) (tNew R t) := by
  refine ⟨fun pins s σ H Q I h => ?_⟩
  obtain ⟨B, initId, FB⟩ := exb k
  obtain ⟨fI, fd, iC, tI, F1, b0, bK⟩ := M.ini
  refine wpAny_Call_Name_kw (ld_glob I hg M.mgC ?_ hdb)
  refine PySem.W.callWith_K (h₀ := X.base) I.ok.mod.kin M.cl.ex.kC (thn (ha.run pos pins s σ H _ I h) fun us s1 ⟨vs, H1, I1, r, v, ev, q⟩ => ⟨I1.kIn, ?_⟩) he hpl
  subst ev
  exact run_ex (n := 1) (ks := []) (zs := []) (ws := []) (E := E0) M.cl.ex FB iC tI F1 hr b0 pass0 I1 r .nil rfl rfl (by decide) fun a na => hs v H1 _ a q na
theorem pe_newK (M : MkE X.prog X.w X.K X.mg X.base C k x f sp) (hs : Serves C sp R) (hr : Room 2 X.A) (hg : Gl X x) (ha : PE X e te)
    (hdb : (x == ("__debug__" : Str)) = false := by decide) (hall : (backToKw pos (keywordEach [⟨some f, e, kpos⟩] X.env)).all (·.1.isSome) = true := by rfl) (hks : (backToKw pos (keywordEach [⟨some f, e, kpos⟩] X.env)).filterMap (·.1) = [f] := by rfl)
    (hpl : ((backTo pos (starEach [] X.env)).any (·.1) || (backToKw pos (keywordEach [⟨some f, e, kpos⟩] X.env)).any (·.1.isNone)) = false := by rfl) :
    PE X (.Call (.Name x p) [] [⟨some f, e, kpos⟩] pos) (tNew R (tCons te tNil)) := by
  refine ⟨fun pins s σ H Q I h => ?_⟩
  obtain ⟨B, initId, FB⟩ := exb k
  obtain ⟨fI, fd, iC, tI, F1, b0, bK⟩ := M.ini
  refine wpAny_Call_Name_kw (ld_glob I hg M.mgC ?_ hdb)
  refine PySem.W.callWith_KW0 (h₀ := X.base) I.ok.mod.kin M.cl.ex.kC hall ?_ hpl
  refine thn ((pk_cons ha pk_nil).run pos pins s σ H _ I h) fun ws s2 ⟨zs, H2, I2, rz, v, ev, q⟩ => ⟨I2.kIn, ?_⟩
  subst ev
  rw [hks]
  exact run_ex (n := 0) (us := []) (vs := []) (E := E0) M.cl.ex FB iC tI F1 hr bK pass0 I2 .nil rz rfl rfl (by decide) fun a na => hs v H2 _ a q na
end
/-! the three ways -/
theorem laid {H : Hp} {a dx C : Addr} {f : Str} {v : V} (na : H a = none) (nd : upd H a (exo a C none) dx = none) (ne : dx ≠ a) :
    Same H (upd (upd (upd H a (exo a C none)) dx (exd dx [(f, v)])) a (exo a C (some dx))) := fun b o h => by
  have hb : b ≠ a := ne_of_none h na
  have hd : b ≠ dx := ne_of_none h (by rw [upd_ne ne] at nd; exact nd)
  rw [upd_ne hb, upd_ne hd, upd_ne hb]
  exact h
theorem exc_laid {K : PySem.W.Frag} {H : Hp} {a dx C : Addr} {f : Str} {v : V} {k : Nat} (x : Cl K C k) (ne : dx ≠ a) : Exc K (upd (upd H dx (exd dx [(f, v)])) a (exo a C (some dx))) a C [(f, v)] :=
  ⟨_, _, x.ex, .inr ⟨dx, upd_same, by rw [upd_ne ne]; exact upd_same⟩⟩
def rPlain (K : PySem.W.Frag) (C : Addr) (f : Str) : RN := fun v H Q => ∀ a H', Same H H' → H a = none → Exc K H' a C [(f, v)] → Q a H'
theorem serves_plain {K : PySem.W.Frag} {C : Addr} {f : Str} {k : Nat} (x : Cl K C k) (no : PySem.W.findIn K (.ref C) f = some none) : Serves C (spIni K C (tl k) (nw k) f) (rPlain K C f) := fun v H Q a q na =>
  ⟨a, v, rfl, x.ex, no, upd_same, fun dx nd ne => ⟨rfl, q a _ (laid na nd ne) na (exc_laid x ne)⟩⟩
def rList (K : PySem.W.Frag) (C : Addr) : RN := fun v H Q => ∃ (p : Addr) (xs : List V), v = .ref p ∧ SqL K H p xs ∧ ∀ a l H', Same H H' → H a = none → H l = none → H' l = some (.lst xs) → Exc K H' a C [("cycle", .ref l)] → Q a H'
theorem serves_list {K : PySem.W.Frag} {C : Addr} (x : Cl K C 0) (no : PySem.W.findIn K (.ref C) "cycle" = some none) : Serves C (spCon K C) (rList K C) := fun v H Q a q na => by
  obtain ⟨p, xs, rfl, hp, q⟩ := q
  refine ⟨a, p, xs, rfl, x.ex, no, (same_new na _).seq hp, upd_same, fun H2 l s2 nl hl dx nd ne => ⟨rfl, ?_⟩⟩
  have la : l ≠ a := fun z => by
    rw [z, upd_same] at nl
    cases nl
  have nl' : H l = none := by
    rw [upd_ne la] at nl
    exact nl
  have ld : l ≠ dx := fun z => by
    rw [z, nd] at hl
    cases hl
  refine q a l _ (fun b o h => ?_) na nl' ?_ (exc_laid x ne)
  · have hb : b ≠ a := ne_of_none h na
    have h2 := s2 _ _ (by rw [upd_ne hb]; exact h)
    rw [upd_ne hb, upd_ne (ne_of_none h2 nd)]
    exact h2
  · rw [upd_ne la, upd_ne ld]
    exact hl
def rTup (K : PySem.W.Frag) (C : Addr) : RN := fun v H Q => ∃ (p : Addr) (xs : List V), v = .ref p ∧ SqT K H p xs ∧ ∀ a H', Same H H' → H a = none → Exc K H' a C [("pair", .ref p)] → Q a H'
theorem serves_tup {K : PySem.W.Frag} {C : Addr} (x : Cl K C 2) (no : PySem.W.findIn K (.ref C) "pair" = some none) : Serves C (spBlo K C) (rTup K C) := fun v H Q a q na => by
  obtain ⟨p, xs, rfl, hp, q⟩ := q
  exact ⟨a, p, xs, rfl, x.ex, no, seqT (same_new na _) hp, upd_same, fun dx nd ne => ⟨rfl, q a _ (laid na nd ne) na (exc_laid x ne)⟩⟩
/-- C() -/
structure MkE0 (P : Program) (w : World) (K : PySem.W.Frag) (mg : Str → Option Value) (base : Heap) (C : Addr) (k : Nat) (x : Str) : Prop where
  cl : Cl K C k
  mgC : mg x = some (.ref C)
  ini : ∃ (fI : Addr) (fd : FuncData), PySem.W.findIn K (.ref C) "__init__" = some (some (.ref fI)) ∧ PySem.W.typeIn K (.ref fI) = some (.type "function") ∧ FnOk P w K mg base CX0 1 fI fd ["self"] spOth ∧ KBn K fd ["self"] 1 [] (fun us ws => us ++ ws) (fun vs zs => vs ++ zs)
def tNew0 (K : PySem.W.Frag) (C : Addr) : TE := fun σ H Q => ∀ a H', Same H H' → H a = none → Exc K H' a C [] → Q (.ref a) H'
theorem pe_new0 {X : Cx} {k : Nat} {C : Addr} {x : Str} {p pos : Pos} (M : MkE0 X.prog X.w X.K X.mg X.base C k x) (hr : Room 2 X.A) (hg : Gl X x) (hdb : (x == ("__debug__" : Str)) = false := by decide) : PE X (.Call (.Name x p) [] [] pos) (tNew0 X.K C) := by
  refine ⟨fun pins s σ H Q I h => ?_⟩
  obtain ⟨B, initId, FB⟩ := exb k
  obtain ⟨fI, fd, iC, tI, F1, b0⟩ := M.ini
  refine wpAny_Call_Name_kw (ld_glob I hg M.mgC ?_ hdb)
  exact PySem.W.callWith_K0 I.kIn M.cl.ex.kC (run_ex (n := 0) (ks := []) (zs := []) (ws := []) (vs := []) (us := []) (E := E0) M.cl.ex FB iC tI F1 hr b0 pass0 I .nil .nil rfl rfl (by decide)
    fun a na => ⟨_, rfl, rfl, h a _ (same_new na _) na ⟨_, _, M.cl.ex, .inl ⟨rfl, upd_same⟩⟩⟩)
theorem tl_tail (k : Nat) : PySem.W.excTail (tl k) (tl k) = true := by
  match k with
  | 0 => decide +kernel
  | 1 => decide +kernel
  | 2 => decide +kernel
  | _ + 3 => exact (by decide +kernel : PySem.W.excTail tlOverflowError tlOverflowError = true)
section
variable {K : PySem.W.Frag} {C : Addr} {nm q : Str} {N : Addr} {bs : List Value} {sn : List Str} {sub : List Value} {ab : Bool} {col : Option Bool} {dd : Option Addr} {k0 k1 k2 k3 k5 : Option Value}
theorem cl_mk (k : Nat) (xL : K.lookup C = some (excClassObj nm q C N bs (tl k) true sn sub ab col dd k0 k1 k2 k3 k5 (nw k)))
    (sa : PySem.W.findIn K (.ref C) "__setattr__" = some (some (.builtin "object.__setattr__"))) (ga : PySem.W.findIn K (.ref C) "__getattribute__" = some (some (.builtin "BaseException.__getattribute__"))) (gg : PySem.W.findIn K (.ref C) "__getattr__" = some none)
    (kC : PySem.W.keepIn K (.ref C) = true) (ca : PySem.W.findIn K (.ref C) "__class__" = some (some (.builtin "object.__class__"))) (ty : PySem.W.typeIn K (.ref C) = some (.type "type"))
    (sp : PySem.W.specialIn K (.builtin "object.__class__") "__get__" = some (some (.builtin "getset_descriptor.__get__"))) (tk : PySem.W.takesIn K (.builtin "object.__class__") = some true) : Cl K C k := by
  have hc : (PySem.W.clsIn K C).map (·.mro) = some (.ref C :: tl k) := by
    unfold PySem.W.clsIn
    rw [xL]
    rfl
  have hs : ∀ v, PySem.W.mroIn K C v = some ((Value.ref C :: tl k).contains v) := fun v => by
    obtain ⟨cd, h1, h2⟩ := Option.map_eq_some_iff.mp hc
    unfold PySem.W.mroIn
    rw [h1, Option.bind_some, h2]
    rfl
  have tB : (tl k).contains (.type "BaseException") = true ∧ (tl k).contains (.type "object") = true := by
    match k with
    | 0 => decide +kernel
    | 1 => decide +kernel
    | 2 => decide +kernel
    | _ + 3 => exact (by decide +kernel : tlOverflowError.contains (.type "BaseException") = true ∧ tlOverflowError.contains (.type "object") = true)
  refine ⟨⟨?_, ?_, sa, ga, gg, ?_, ?_, kC, ca, sp, tk, ?_⟩, hc, ty⟩
  · unfold PySem.W.excOver PySem.W.clsIn
    rw [xL]
    show (C == C && PySem.W.excTail (tl k) (tl k)) = true
    rw [tl_tail, beq_self_eq_true]
    rfl
  · unfold PySem.W.excInitIn
    rw [xL]
    show (C == C && nw k == nw k && !false && PySem.W.excTail (tl k) (tl k)) = true
    rw [tl_tail, beq_self_eq_true, beq_self_eq_true]
    rfl
  · show PySem.W.mroIn K C _ = _
    rw [hs, List.contains_cons, tB.1, Bool.or_true]
  · unfold PySem.W.hasDictIn PySem.W.clsIn
    rw [xL]
    rfl
  · rw [hs, List.contains_cons, tB.2, Bool.or_true]
end

theorem tl_at {k : Nat} (h : k < 4) : (tl k).contains (.type "ValueError") = decide (k = 0) ∧ (tl k).contains (.type "LookupError") = decide (k = 1) ∧ (tl k).contains (.type "RuntimeError") = decide (k = 2) ∧ (tl k).contains (.type "OverflowError") = decide (k = 3) ∧
    (tl k).contains (.type "IndexError") = false ∧ (tl k).contains (.type "KeyError") = false ∧ (tl k).contains (.type "NotImplementedError") = false := by
  match k, h with
  | 0, _ => decide +kernel
  | 1, _ => decide +kernel
  | 2, _ => decide +kernel
  | 3, _ => decide +kernel
/-! raise C(e) -/
theorem Cl.raises {X : Cx} {C : Addr} {k : Nat} (x : Cl X.K C k) : Raises X (.ref C) := raises_own x.ex.exC x.ty
/-- the exception's own dict alone is told behind the making -/
def tRz (C : Addr) (sp : Sp) (t : TA) : L2.St → Hp → XK → Prop := fun σ H Q => t σ H fun vs H1 => ∃ v, vs = [v] ∧ ∀ a, H1 a = none → sp [.ref a, v] (upd H1 a (exo a C none))
  (fun r H2 => r = .non ∧ ∃ (d : Addr) (fs : List (Str × V)), H2 a = some (exo a C (some d)) ∧ H2 d = some (exd d fs) ∧ H1 d = none ∧ Q (.ref C) (some d) (upd (del H2 a) d (.xd fs))) E0
theorem pmk_ex {X : Cx} {k : Nat} {C : Addr} {sp : Sp} {x f : Str} {p pos : Pos} {e : Expr} {t : TA} (M : MkE X.prog X.w X.K X.mg X.base C k x f sp) (hr : Room 2 X.A) (hg : Gl X x) (ha : PA X [e] t)
    (hdb : (x == ("__debug__" : Str)) = false := by decide) (he : starEach [e] X.env = (false, eval e X.env) :: starEach [] X.env := by rfl) (hpl : (backTo pos (starEach [] X.env)).any (·.1) = false := by rfl) :
    PMk X (.Call (.Name x p) [e] [] pos) (tRz C sp t) := by
  intro pins s σ H Q I h
  obtain ⟨B, initId, FB⟩ := exb k
  obtain ⟨fI, fd, iC, tI, F1, b0, bK⟩ := M.ini
  refine wpAny_Call_Name_kw (ld_glob I hg M.mgC ?_ hdb)
  refine PySem.W.callWith_K (h₀ := X.base) I.ok.mod.kin M.cl.ex.kC (thn (ha.run pos pins s σ H _ I h) fun us s1 ⟨vs, H1, I1, r, v, ev, q⟩ => ⟨I1.kIn, ?_⟩) he hpl
  subst ev
  obtain ⟨nm, N, qn, bs, bm, hdct, sn, sub, ab, col, dd, k0, k1, k2, k3, k5, hC, hT⟩ := PySem.W.excInit_of I1.kIn M.cl.ex.ini
  obtain ⟨hp, gs, dr, tk, os⟩ := s1
  have hsz : hp.objs.size ≤ hp.objs.size + 1 := Nat.le_succ _
  have hq := q (hp.objs.size + 1) (I1.hok.fresh hsz)
  have kk : ∀ b u, hp.get? b = some u → ((hp.push (PySem.W.kdv_tup us)).push (PySem.HandSPX.excO C hp.objs.size)).get? b = some u := fun b u q => Heap.get?_push_of_some _ (Heap.get?_push_of_some _ q)
  have hg : ((hp.push (PySem.W.kdv_tup us)).push (PySem.HandSPX.excO C hp.objs.size)).get? (hp.objs.size + 1) = some (PySem.HandSPX.excO C hp.objs.size) := by heap_get
  have I2 : Inv X pins σ (upd H1 (hp.objs.size + 1) (exo (hp.objs.size + 1) C none)) ⟨(hp.push (PySem.W.kdv_tup us)).push (PySem.HandSPX.excO C hp.objs.size), gs, dr, tk, os⟩ :=
    I1.laid (t' := tk) (a := hp.objs.size + 1) (o := exo (hp.objs.size + 1) C none) (h' := (hp.push (PySem.W.kdv_tup us)).push (PySem.HandSPX.excO C hp.objs.size)) kk hsz (exo_ok hg)
  have r1 : Vals [V.ref (hp.objs.size + 1), v] (Value.ref (hp.objs.size + 1) :: us) := .cons rfl r
  have e1 : (Value.ref (hp.objs.size + 1) :: us).length = 2 := r1.length.symm
  have hus : us.length ≤ sizeLine := by
    rw [← r.length, sizeLine_eq]
    exact (by decide : 1 ≤ 16777216)
  have r2 : Vals [V.ref (hp.objs.size + 1), v] ((Value.ref (hp.objs.size + 1) :: us) ++ []) := by rw [List.append_nil]; exact r1
  refine wpAny_call (OvX.callOwn (kw := []) FB hT hC (PySem.W.looks_findIn I1.kIn iC) (fun self => PySem.W.bind_fn I1.kIn self tI) hus
    (codeAny_mono (F1.run _ X.stack _ _ ⟨Value.ref (hp.objs.size + 1) :: us, []⟩ ((Value.ref (hp.objs.size + 1) :: us) ++ []) _ _ E0 (hr.make C us []) (I2.env0.make C us []) (b0.to _ _ [] I2.kIn e1 rfl) r2 hq) fun r s' hq' => ?_))
  cases r with
  | error er => exact pass0 (X := X) pins σ _ _ er s' I2 hq'
  | ok fl =>
    cases fl with
    | ret u =>
      obtain ⟨v', H2, os2, bare2, un2, hok2, rv, ev, d, fs, ea, ed, hd1, q2⟩ := hq'
      subst ev
      obtain ⟨h2, g2, d2, t2, os'⟩ := s'
      exact ⟨rv, mk_end M.cl.raises I1 hsz kk un2 hok2 os2 bare2 ea ed hd1 q2⟩
    | next => exact False.elim hq'
    | brk => exact False.elim hq'
    | cont => exact False.elim hq'
/-- with a plain __init__ -/
theorem rz_plain {K : PySem.W.Frag} {C : Addr} {k : Nat} {f : Str} {v : V} {H1 : Hp} {Q : XK} (x : Cl K C k) (no : PySem.W.findIn K (.ref C) f = some none) (q : ∀ d H', Same H1 H' → H1 d = none → H' d = some (.xd [(f, v)]) → Q (.ref C) (some d) H') (a : Addr) (na : H1 a = none) :
    spIni K C (tl k) (nw k) f [.ref a, v] (upd H1 a (exo a C none)) (fun r H2 => r = .non ∧ ∃ (d : Addr) (fs : List (Str × V)), H2 a = some (exo a C (some d)) ∧ H2 d = some (exd d fs) ∧ H1 d = none ∧ Q (.ref C) (some d) (upd (del H2 a) d (.xd fs))) E0 := by
  refine ⟨a, v, rfl, x.ex, no, upd_same, fun dx nd ne => ⟨rfl, dx, [(f, v)], upd_same, ?_, ?_, ?_⟩⟩
  · rw [upd_ne ne]
    exact upd_same
  · rw [upd_ne ne] at nd
    exact nd
  · rw [upd_ne ne] at nd
    refine q dx _ (fun b o h => ?_) nd upd_same
    have hb : b ≠ a := ne_of_none h na
    have hd : b ≠ dx := ne_of_none h nd
    rw [upd_ne hd, del_ne hb, upd_ne hb, upd_ne hd, upd_ne hb]
    exact h
/-! a caught exception -/
def Cau (K : PySem.W.Frag) (H : Hp) (a C : Addr) (fs : List (Str × V)) : Prop := ∃ (k : Nat) (d : Addr), Cl K C k ∧ H a = some (exg a C (some d)) ∧ H d = some (.xd fs)
theorem Cau.same {K : PySem.W.Frag} {H H' : Hp} {a C : Addr} {fs : List (Str × V)} (h : Cau K H a C fs) (s : Same H H') : Cau K H' a C fs := by
  obtain ⟨k, d, x, h1, h2⟩ := h
  exact ⟨k, d, x, s _ _ h1, s _ _ h2⟩
section
variable {X : Cx} {e : Expr} {te : TE} {pos : Pos}
theorem cau_inst {pins : List (Addr × Obj)} {σ : L2.St} {H : Hp} {s : Shared} {a C : Addr} {fs : List (Str × V)} (I : Inv X pins σ H s) (h : Cau X.K H a C fs) :
    ∃ (k : Nat) (oe od : Obj) (mA : Str → Option Value), Cl X.K C k ∧ PySem.W.InstAt s.heap a oe C (some od) ∧ (∀ f, RelO (fs.lookup f) (mA f)) ∧ ∀ f, PySem.W.lookIn f od = some (mA f) := by
  obtain ⟨k, d, x, h1, h2⟩ := h
  obtain ⟨oe, vs, he, hc, hd, hf⟩ := exg_at I.hok h1
  have hx : ObjOk X.prog X.w H s.heap d (.xd fs) := I.hok d _ h2
  obtain ⟨mA, hns, rel⟩ := hx
  obtain ⟨od, ho, hl⟩ := lookIn_ns hns
  exact ⟨k, oe, od, mA, x, ⟨he, hc, by unfold PySem.W.notCls; rw [hf] <;> rfl, by rw [hd]; exact ho⟩, rel, hl⟩
def tCaf (K : PySem.W.Frag) (f : Str) (te : TE) : TE := fun σ H Q => te σ H fun x H1 => ∃ (a C : Addr) (fs : List (Str × V)) (v : V), x = .ref a ∧ Cau K H1 a C fs ∧ PySem.W.findIn K (.ref C) f = some none ∧ fs.lookup f = some v ∧ Q v H1
theorem pe_caf {f : Str} (he : PE X e te) (hb : attributeBase e f X.env (eval e X.env) = eval e X.env := by rfl) : PE X (.Attribute e f pos) (tCaf X.K f te) := by
  refine ⟨fun pins s σ H Q I h => ?_⟩
  refine attr_of hb (thn (he.run pins s σ H _ I h) fun u s1 hh => ?_)
  obtain ⟨y, H1, I1, rx, a, C, fs, v, ex, hE, hno, l, q⟩ := hh
  subst ex
  obtain rfl : u = Value.ref a := rx
  obtain ⟨k, oe, od, mA, x, J, rel, hl⟩ := cau_inst I1 hE
  obtain ⟨u, hu, ru⟩ := RelO.some_of (v := v) (o := mA f) (by rw [← l]; exact rel f)
  exact HandSPX.exc_get I1.kIn J x.ex.ga x.ex.gg x.ex.exC (PySem.W.findObj_own x.ex.hd hno rfl (by rw [hl, hu])) (handed_of ru) ⟨v, H1, I1.tok _, ru, q⟩
theorem cau_kit {pins : List (Addr × Obj)} {σ : L2.St} {H : Hp} {s : Shared} {a C : Addr} {fs : List (Str × V)} (I : Inv X pins σ H s) (h : Cau X.K H a C fs) : ∃ P : Heap → Prop, PySem.W.KitX X.K (.ref a) (.ref C) P ∧ P s.heap := by
  obtain ⟨k, oe, od, mA, x, J, rel, hl⟩ := cau_inst I h
  obtain ⟨cd, hcd, _⟩ := PySem.W.any_some x.ex.hd
  exact ⟨_, PySem.W.kitx_exc (by rw [hcd]; rfl) x.ex.ga x.ex.gg x.ex.exC x.ex.ca x.ex.sp x.ex.tk x.ex.mr, J⟩
def rIsC (K : PySem.W.Frag) : List V → Hp → VK → Prop := fun xs H Q => ∃ (a C : Addr) (fs : List (Str × V)) (c : V) (u : Value) (b : Bool), xs = [.ref a, c] ∧ ClsV c u ∧ Cau K H a C fs ∧ PySem.W.kitOne K (.ref C) u = some b ∧ Q (.bl b) H
theorem call_isC : CallR X (.builtin "isinstance") (rIsC X.K) := by
  intro pins s σ H xs us Q I r h
  obtain ⟨a, C, fs, c, u, b, rfl, k, ex, e, q⟩ := h
  obtain ⟨u1, u2, rfl, r1, r2⟩ := vals2 r
  have e2 := k.eq r2
  subst e2
  obtain rfl : u1 = Value.ref a := r1
  obtain ⟨P, Z, p⟩ := cau_kit I ex
  exact PySem.W.kia_one Z I.kIn p e (fun z => nomatch z) fun tk => ⟨.bl b, H, I.tok tk, rfl, q⟩
end
/-- one own class among the classes of a clause -/
theorem Cl.exm {K : PySem.W.Frag} {C D : Addr} {k j : Nat} (x : Cl K C k) (y : Cl K D j) : PySem.W.exmOne K (.ref C) (.ref D) = some (decide (C = D)) := by
  obtain ⟨cd, h1, h2⟩ := Option.map_eq_some_iff.mp y.mro
  show (if (PySem.W.subIn K (.ref D) (.type "BaseException") == some true) = true then (if ((PySem.W.clsIn K D).isSome && PySem.W.typeIn K (.ref D) == some (.type "type")) = true then PySem.W.subIn K (.ref C) (.ref D) else none) else none) = _
  rw [y.ex.exC, if_pos (by rfl), h1, y.ty, if_pos (by rfl), x.sub, List.contains_cons, tl_ref, Bool.or_false]
  by_cases h : C = D
  · subst h
    rw [beq_self_eq_true, decide_eq_true rfl]
  · rw [decide_eq_false h]
    exact congrArg some (beq_eq_false_iff_ne.mpr fun z => h (Value.ref.inj z).symm)
/-! f(k = v, ..): keywords alone -/
section
variable {X : Cx} {CX : CXT} {k : Nat} {f : Addr} {fd : FuncData} {ps ks : List Str} {sp : Sp} {x : Str} {p pos : Pos} {kws : List Keyword} {tk : TA} {g : List Value → List Value → List Value} {gV : List V → List V → List V}
theorem pe_callK0 {E : XK} (F : FnOk X.prog X.w X.K X.mg X.base CX k f fd ps sp) (hr : Room k X.A) (hg : Gl X x) (hm : X.mg x = some (.ref f)) (hk : PySem.W.keepIn X.K (.ref f) = true) (hb : KBn X.K fd ps 0 ks g gV) (hx : Passes CX X E) (hkw : PK X kws tk)
    (hall : (backToKw pos (keywordEach kws X.env)).all (·.1.isSome) = true := by rfl) (hks : (backToKw pos (keywordEach kws X.env)).filterMap (·.1) = ks := by rfl) (hdb : (x == ("__debug__" : Str)) = false := by decide)
    (hpl : ((backTo pos (starEach [] X.env)).any (·.1) || (backToKw pos (keywordEach kws X.env)).any (·.1.isNone)) = false := by rfl) :
    PE X (.Call (.Name x p) [] kws pos) (tCallN 0 ks.length sp gV E tNil tk) := by
  refine ⟨fun pins s σ H Q I h => ?_⟩
  refine wpAny_Call_Name_kw (ld_glob I hg hm ?_ hdb)
  refine PySem.W.callWith_KW0 (h₀ := X.base) I.ok.mod.kin hk hall ?_ hpl
  refine thn (hkw.run pos pins s σ H _ I h) fun ws s2 ⟨zs, H2, I2, rz, l1, l2, q2⟩ => ⟨I2.kIn, ?_⟩
  rw [hks]
  exact run_fnN (us := []) (vs := []) F hr hb hx I2 .nil rz rfl l2 q2
/-- the same where what is raised is wished for at the caller's slots -/
def tCallKS (m : Nat) (sp : Sp) (gV : List V → List V → List V) (E : L2.St → XK) (tk : TA) : TE := fun σ H Q => tk σ H fun zs H2 => zs.length = m ∧ sp (gV [] zs) H2 Q (E σ)
theorem pe_callKS {E : L2.St → XK} (F : FnOk X.prog X.w X.K X.mg X.base CX k f fd ps sp) (hr : Room k X.A) (hg : Gl X x) (hm : X.mg x = some (.ref f)) (hk : PySem.W.keepIn X.K (.ref f) = true) (hb : KBn X.K fd ps 0 ks g gV) (hx : ∀ σ, PassesAt CX X σ (E σ)) (hkw : PK X kws tk)
    (hall : (backToKw pos (keywordEach kws X.env)).all (·.1.isSome) = true := by rfl) (hks : (backToKw pos (keywordEach kws X.env)).filterMap (·.1) = ks := by rfl) (hdb : (x == ("__debug__" : Str)) = false := by decide)
    (hpl : ((backTo pos (starEach [] X.env)).any (·.1) || (backToKw pos (keywordEach kws X.env)).any (·.1.isNone)) = false := by rfl) :
    PE X (.Call (.Name x p) [] kws pos) (tCallKS ks.length sp gV E tk) := by
  refine ⟨fun pins s σ H Q I h => ?_⟩
  refine wpAny_Call_Name_kw (ld_glob I hg hm ?_ hdb)
  refine PySem.W.callWith_KW0 (h₀ := X.base) I.ok.mod.kin hk hall ?_ hpl
  refine thn (hkw.run pos pins s σ H _ I h) fun ws s2 ⟨zs, H2, I2, rz, l2, q2⟩ => ⟨I2.kIn, ?_⟩
  rw [hks]
  have r2 := hb.rel (vs := []) (us := []) .nil rz
  refine wpAny_call (codeAny_mono (F.run X.A X.stack s2 H2 ⟨[], ks.zip ws⟩ (g [] ws) (gV [] zs) Q (E σ) hr I2.env0 (hb.to s2 [] ws I2.kIn rfl (rz.length.symm.trans l2)) r2 q2) fun r s' hq => ?_)
  cases r with
  | error e => exact hx σ pins H2 s2 e s' I2 hq
  | ok fl =>
    cases fl with
    | ret u => exact I2.after hq
    | next => exact False.elim hq
    | brk => exact False.elim hq
    | cont => exact False.elim hq
end
end Ov

set_option Elab.async false
set_option linter.all false
set_option maxRecDepth 100000
set_option maxHeartbeats 4000000
namespace Ov
open PySem L2
/-! sequences that are lists or tuples -/
def Sq (K : PySem.W.Frag) (H : Hp) (a : Addr) (xs : List V) : Prop := SqL K H a xs ∨ SqT K H a xs
theorem Sq.same {K : PySem.W.Frag} {H H' : Hp} {a : Addr} {xs : List V} (h : Sq K H a xs) (s : Same H H') : Sq K H' a xs := h.imp (fun z => s.seq z) (fun z => seqT s z)
theorem cut_to {xs : List V} {i : Int} (h0 : 0 ≤ i) (h1 : i ≤ xs.length) : cutV xs none (some i) = xs.take i.toNat := by
  unfold cutV
  simp only [HT.sIx]
  rw [if_neg (by omega), Nat.min_eq_left (by omega)]
  rfl
theorem cut_from {xs : List V} {i : Int} (h0 : 0 ≤ i) (h1 : i ≤ xs.length) : cutV xs (some i) none = xs.drop i.toNat := by
  unfold cutV
  simp only [HT.sIx]
  rw [if_neg (by omega), Nat.min_eq_left (by omega), List.take_of_length_le (by rw [List.length_drop]; omega)]
theorem cut_all {xs : List V} {lo hi : Option Int} (h : HT.sIx xs.length 0 lo = 0 ∧ HT.sIx xs.length xs.length hi = xs.length) : cutV xs lo hi = xs := by
  unfold cutV
  rw [h.1, h.2]
  simp
section
variable {X : Cx}
/-- a slice of a list or a tuple, by its items -/
def rCut (K : PySem.W.Frag) : V → Option Int → Option Int → Hp → VK → Prop := fun x lo hi H Q => ∃ (a : Addr) (xs : List V), x = .ref a ∧
  ((SqL K H a xs ∧ ∀ p H', Same H H' → H p = none → H' p = some (.lst (cutV xs lo hi)) → Q (.ref p) H') ∨ (SqT K H a xs ∧ ∀ p H', Same H H' → SqT K H' p (cutV xs lo hi) → Q (.ref p) H'))
theorem sl_cut : SlR X (rCut X.K) := by
  intro pins s σ H x v vl vu lo hi sl Q I rx hs pl pu q
  obtain ⟨a, xs, rfl, ⟨h, q⟩ | ⟨h, q⟩⟩ := q
  · exact sl_list pins s σ H _ v vl vu lo hi sl Q I rx hs pl pu ⟨a, xs, rfl, h, fun p hp => q p _ (same_new hp _) hp upd_same⟩
  · exact sl_tupA pins s σ H _ v vl vu lo hi sl Q I rx hs pl pu ⟨a, xs, rfl, h, fun z => q a H (same_refl H) (by rw [cut_all z]; exact h), fun _ p hp => q p _ (same_new hp _) (SqT.of upd_same)⟩
/-- the same, whatever it is -/
def rCutS (K : PySem.W.Frag) : V → Option Int → Option Int → Hp → VK → Prop := fun x lo hi H Q => ∃ (a : Addr) (xs : List V), x = .ref a ∧ Sq K H a xs ∧ ∀ p H', Same H H' → Sq K H' p (cutV xs lo hi) → Q (.ref p) H'
theorem sl_cutS : SlR X (rCutS X.K) := by
  intro pins s σ H x v vl vu lo hi sl Q I rx hs pl pu q
  obtain ⟨a, xs, rfl, h | h, q⟩ := q
  · exact sl_cut pins s σ H _ v vl vu lo hi sl Q I rx hs pl pu ⟨a, xs, rfl, .inl ⟨h, fun p H' s' _ hp => q p H' s' (.inl (SqL.of hp))⟩⟩
  · exact sl_cut pins s σ H _ v vl vu lo hi sl Q I rx hs pl pu ⟨a, xs, rfl, .inr ⟨h, fun p H' s' hp => q p H' s' (.inr hp)⟩⟩
/-- t + u, by its items -/
def rCatW (K : PySem.W.Frag) : R2 := fun x y H Q => ∃ (a b : Addr) (xs ys : List V), x = .ref a ∧ y = .ref b ∧ SqT K H a xs ∧ SqT K H b ys ∧ xs.length + ys.length ≤ sizeLine ∧ ∀ p H', Same H H' → SqT K H' p (xs ++ ys) → Q (.ref p) H'
theorem op_catW : OpR X (binaryOp .Add) (rCatW X.K) := by
  intro pins s σ H x y v u Q I rx ry h
  obtain ⟨a, b, xs, ys, rfl, rfl, ha, hb, hl, q⟩ := h
  refine op_catA pins s σ H _ _ v u Q I rx ry ⟨a, b, xs, ys, rfl, rfl, ha, hb, hl, fun e => q b H (same_refl H) ?_, fun _ e => q a H (same_refl H) ?_, fun _ _ p hp => q p _ (same_new hp _) (SqT.of upd_same)⟩
  · rw [e]
    exact hb
  · rw [e, List.append_nil]
    exact ha
/-- tuple(x), by its items -/
def rTupW (K : PySem.W.Frag) : List V → Hp → VK → Prop := fun vs H Q => ∃ (a : Addr) (xs : List V), vs = [.ref a] ∧ Sq K H a xs ∧ ∀ p H', Same H H' → SqT K H' p xs → Q (.ref p) H'
theorem call_tupW : CallR X (.type "tuple") (rTupW X.K) := by
  intro pins s σ H vs us Q I r h
  obtain ⟨a, xs, rfl, hs, q⟩ := h
  refine call_tuple_of pins s σ H _ us Q I r ⟨a, xs, rfl, ?_⟩
  rcases hs with hs | hs
  · exact .inl ⟨hs, fun l hl => q l _ (same_new hl _) (SqT.of upd_same)⟩
  · exact .inr ⟨hs, q a H (same_refl H) hs⟩
end
/-! numbers among numbers -/
theorem in_ints (x : Int) : ∀ ns : List Int, inV (.int x) (ns.map V.int) = decide (x ∈ ns)
  | [] => rfl
  | n :: r => by
    have ih := in_ints x r
    unfold inV at ih ⊢
    rw [List.map_cons, List.any_cons, ih]
    show ((n == x) || decide (x ∈ r)) = decide (x ∈ n :: r)
    by_cases h : n = x
    · subst h
      simp
    · rw [beq_eq_false_iff_ne.mpr h, Bool.false_or]
      by_cases h2 : x ∈ r
      · rw [decide_eq_true h2, decide_eq_true (List.mem_cons_of_mem _ h2)]
      · rw [decide_eq_false h2, decide_eq_false (fun z => (List.mem_cons.mp z).elim (fun e => h e.symm) h2)]
theorem flat_ints (ns : List Int) : (ns.map V.int).all flatV = true := by
  rw [List.all_map]
  exact List.all_eq_true.mpr fun _ _ => rfl
end Ov

set_option Elab.async false
set_option linter.all false
set_option maxRecDepth 100000
set_option maxHeartbeats 4000000
namespace Ov
open PySem L2
def top (i : Nat) : Stmt := PySem.Challenge.pw_overlooks_k02_people_who_come_and_go.main.body.getD i (.Pass ⟨0, 0, 0, 0⟩)
abbrev S_check_person : Stmt := top 6
abbrev N_check_person : List Str := ["row", "height"]
abbrev P_check_person : List Str := ["row", "height"]
theorem sc_check_person : FnScope N_check_person P_check_person (defScope S_check_person) := ⟨rfl, rfl, rfl, by decide +kernel, rfl, by decide +kernel, by decide +kernel⟩
abbrev S_with_person : Stmt := top 7
abbrev N_with_person : List Str := ["row", "place", "height"]
abbrev P_with_person : List Str := ["row", "place", "height"]
theorem sc_with_person : FnScope N_with_person P_with_person (defScope S_with_person) := ⟨rfl, rfl, rfl, by decide +kernel, rfl, by decide +kernel, by decide +kernel⟩
abbrev S_without : Stmt := top 8
abbrev N_without : List Str := ["row", "height", "other"]
abbrev P_without : List Str := ["row", "height"]
theorem sc_without : FnScope N_without P_without (defScope S_without) := ⟨rfl, rfl, rfl, by decide +kernel, rfl, by decide +kernel, by decide +kernel⟩
abbrev S_cell_at : Stmt := top 10
abbrev N_cell_at : List Str := ["_law_script", "_law_k"]
abbrev P_cell_at : List Str := ["_law_script", "_law_k"]
theorem sc_cell_at : FnScope N_cell_at P_cell_at (defScope S_cell_at) := ⟨rfl, rfl, rfl, by decide +kernel, rfl, by decide +kernel, by decide +kernel⟩
abbrev S_box : Stmt := top 11
abbrev N_box : List Str := ["_law_script", "_law_k", "_law_core"]
abbrev P_box : List Str := ["_law_script", "_law_k"]
theorem sc_box : FnScope N_box P_box (defScope S_box) := ⟨rfl, rfl, rfl, by decide +kernel, rfl, by decide +kernel, by decide +kernel⟩
abbrev S_take : Stmt := top 12
abbrev N_take : List Str := ["_law_box_here", "_law_below", "_law_found", "_law_once", "_law_twice"]
abbrev P_take : List Str := ["_law_box_here", "_law_below"]
theorem sc_take : FnScope N_take P_take (defScope S_take) := ⟨rfl, rfl, rfl, by decide +kernel, rfl, by decide +kernel, by decide +kernel⟩
abbrev S_of : Stmt := top 13
abbrev N_of : List Str := ["_law_box_here", "_law_some"]
abbrev P_of : List Str := ["_law_box_here", "_law_some"]
theorem sc_of : FnScope N_of P_of (defScope S_of) := ⟨rfl, rfl, rfl, by decide +kernel, rfl, by decide +kernel, by decide +kernel⟩
abbrev S_same : Stmt := top 14
abbrev N_same : List Str := ["_law_found", "_law_due_here", "_law_a", "_law_b"]
abbrev P_same : List Str := ["_law_found", "_law_due_here"]
theorem sc_same : FnScope N_same P_same (defScope S_same) := ⟨rfl, rfl, rfl, by decide +kernel, rfl, by decide +kernel, by decide +kernel⟩
abbrev S_strewn : Stmt := top 15
abbrev N_strewn : List Str := ["_law_box_here", "_law_some", "_law_left", "_law_found"]
abbrev P_strewn : List Str := ["_law_box_here", "_law_some"]
theorem sc_strewn : FnScope N_strewn P_strewn (defScope S_strewn) := ⟨rfl, rfl, rfl, by decide +kernel, rfl, by decide +kernel, by decide +kernel⟩
abbrev S_souls : Stmt := top 16
abbrev N_souls : List Str := ["_law_box_here", "_law_count", "_law_found", "_law_top", "_law_k", "_law_soul"]
abbrev P_souls : List Str := ["_law_box_here", "_law_count"]
theorem sc_souls : FnScope N_souls P_souls (defScope S_souls) := ⟨rfl, rfl, rfl, by decide +kernel, rfl, by decide +kernel, by decide +kernel⟩
abbrev S_crowd : Stmt := top 17
abbrev N_crowd : List Str := ["_law_box_here", "_law_most", "_law_souls_here", "_law_found", "_law_soul"]
abbrev P_crowd : List Str := ["_law_box_here", "_law_most"]
theorem sc_crowd : FnScope N_crowd P_crowd (defScope S_crowd) := ⟨rfl, rfl, rfl, by decide +kernel, rfl, by decide +kernel, by decide +kernel⟩
abbrev S_told : Stmt := top 18
abbrev N_told : List Str := ["_law_crowd_here", "_law_spot", "_law_soul", "_law_found", "_law_caught", "error", "_law_flags"]
abbrev P_told : List Str := ["_law_crowd_here", "_law_spot", "_law_soul"]
theorem sc_told : FnScope N_told P_told (defScope S_told) := ⟨rfl, rfl, rfl, by decide +kernel, rfl, by decide +kernel, by decide +kernel⟩
abbrev S_due : Stmt := top 19
abbrev N_due : List Str := ["_law_crowd_here", "_law_spot", "_law_soul", "_law_its"]
abbrev P_due : List Str := ["_law_crowd_here", "_law_spot", "_law_soul"]
theorem sc_due : FnScope N_due P_due (defScope S_due) := ⟨rfl, rfl, rfl, by decide +kernel, rfl, by decide +kernel, by decide +kernel⟩
abbrev S_right : Stmt := top 20
abbrev N_right : List Str := ["_law_box_here", "_law_crowd_here", "_law_listed", "_law_fresh", "_law_soul", "_law_spot", "_law_due_here"]
abbrev P_right : List Str := ["_law_box_here"]
theorem sc_right : FnScope N_right P_right (defScope S_right) := ⟨rfl, rfl, rfl, by decide +kernel, rfl, by decide +kernel, by decide +kernel⟩
abbrev S_law : Stmt := top 21
abbrev N_law : List Str := ["_law_script", "_law_k", "_law_box_here", "_law_turn"]
abbrev P_law : List Str := ["_law_script"]
theorem sc_law : FnScope N_law P_law (defScope S_law) := ⟨rfl, rfl, rfl, by decide +kernel, rfl, by decide +kernel, by decide +kernel⟩
abbrev S_Known : Stmt := inClass (top 1) 0
abbrev P_Known : List Str := ["self", "height"]
theorem sc_Known : FnScope P_Known P_Known (defScope S_Known) := ⟨rfl, rfl, rfl, by decide +kernel, rfl, by decide +kernel, by decide +kernel⟩
abbrev S_NoPerson : Stmt := inClass (top 2) 0
abbrev P_NoPerson : List Str := ["self", "height"]
theorem sc_NoPerson : FnScope P_NoPerson P_NoPerson (defScope S_NoPerson) := ⟨rfl, rfl, rfl, by decide +kernel, rfl, by decide +kernel, by decide +kernel⟩
abbrev S_NoPlace : Stmt := inClass (top 3) 0
abbrev P_NoPlace : List Str := ["self", "place"]
theorem sc_NoPlace : FnScope P_NoPlace P_NoPlace (defScope S_NoPlace) := ⟨rfl, rfl, rfl, by decide +kernel, rfl, by decide +kernel, by decide +kernel⟩
abbrev S_NoNumber : Stmt := inClass (top 4) 0
abbrev P_NoNumber : List Str := ["self", "number"]
theorem sc_NoNumber : FnScope P_NoNumber P_NoNumber (defScope S_NoNumber) := ⟨rfl, rfl, rfl, by decide +kernel, rfl, by decide +kernel, by decide +kernel⟩
/-! promises -/
def spCell (K : PySem.W.Frag) : Sp := fun vs H Q _ => ∃ (a : Addr) (ns : List Int) (k : Int), vs = [.ref a, .int k] ∧ SqL K H a (ns.map V.int) ∧ 0 ≤ k ∧ ∀ v : Int, Q (.int v) H
def spBox (K : PySem.W.Frag) : Sp := fun vs H Q _ => ∃ (a : Addr) (ns : List Int) (k : Int), vs = [.ref a, .int k] ∧ SqL K H a (ns.map V.int) ∧ 0 ≤ k ∧ k ≤ 3 ∧ ∀ (p : Addr) (H' : Hp), Same H H' → H p = none → Bx H' p 0 → Q (.ref p) H'
def spTake (n : Nat) : Sp := fun vs H Q _ => ∃ (p : Addr) (m c e : Int), vs = [.ref p, .int m] ∧ Bx H p c ∧ c ≤ 2 ^ 50 + 2 ∧ 1 ≤ m ∧ m ≤ 1000000000 ∧ 1 ≤ n ∧ ((m ≤ 10000000 ∧ e = 1) ∨ (2 ≤ n ∧ c ≤ 2 ^ 50 ∧ e = 2)) ∧
  ∀ (v : Int) (H' : Hp), 0 ≤ v → v < m → SameB p H H' → Bx H' p (c + e) → Q (.int v) H'
section
variable {P : Program} {w : World} {K : PySem.W.Frag} {mg : Str → Option Value} {base : Heap} {f g : Addr} {fd gd : FuncData}
theorem ok_cell (F : Fun K "_law_cell_at" "_law_cell_at" S_cell_at f fd) (ml : mg "len" = none) : FnOk P w K mg base CX0 1 f fd P_cell_at (spCell K) := by
  refine F.ok sc_cell_at (fun vs H Q E h => ?_) (fun cdv A outer s H vs Q E hr h => ?_)
  · obtain ⟨a, ns, k, rfl, _⟩ := h
    rfl
  obtain ⟨a, ns, k, rfl, hS, h0, q⟩ := h
  refine ⟨_, pss_cons (ps_if (pt_cmpR op_lt (pv 1) (pe_callB call_len_seq rfl ml PySem.boot_len (pa_cons (pv 0) pa_nil)) (nomark _)) (pss_one (ps_ret (pe_ix ix_list (pv 0) (pv 1) (fun _ _ => rfl)))) pss_nil) (pss_one (ps_ret pe_int)), ?_⟩
  have hl : (ns.map V.int).length = ns.length := List.length_map _
  refine ⟨_, rfl, _, rfl, a, _, rfl, .inl hS, _, _, rfl, rfl, _, rfl, ?_⟩
  refine ite2 (fun c => ?_) (fun c => ?_)
  · have c' : k < (((ns.map V.int).length : Nat) : Int) := of_decide_eq_true c
    rw [hl] at c'
    have hk : k.toNat < ns.length := by omega
    have q1 : atI (ns.map V.int) ((k.toNat : Nat) : Int) = some (.int ns[k.toNat]) := atI_nat (by rw [List.getElem?_map, List.getElem?_eq_getElem hk] <;> rfl)
    rw [show ((k.toNat : Nat) : Int) = k by omega] at q1
    exact ⟨_, rfl, _, rfl, a, _, _, _, rfl, rfl, hS, q1, q _⟩
  · exact q _
theorem ok_box (F : Fun K "_law_box" "_law_box" S_box f fd) (G : FnOk P w K mg base CX0 1 g gd P_cell_at (spCell K)) (bG : Binds K gd P_cell_at []) (kG : PySem.W.keepIn K (.ref g) = true) (mG : mg "_law_cell_at" = some (.ref g)) (ma : mg "abs" = none) (mi : mg "int" = none) :
    FnOk P w K mg base CX0 2 f fd P_box (spBox K) := by
  refine F.ok sc_box (fun vs H Q E h => ?_) (fun cdv A outer s H vs Q E hr h => ?_)
  · obtain ⟨a, ns, k, rfl, _⟩ := h
    rfl
  obtain ⟨a, ns, k, rfl, hS, h0, h3, q⟩ := h
  refine ⟨_, pss_cons (ps_set (i := 2) sc_box.nd rfl (Or.inl rfl) (pe_call G hr rfl mG kG bG .nil pass0 (pa_cons (pv 0) (pa_cons (pv 1) pa_nil))))
    (pss_one (ps_ret (pe_lst (pa_cons (pe_op op_mul (pe_callB call_abs rfl ma (by decide +kernel) (pa_cons (pv 2) pa_nil)) (pe_callTy call_int1 rfl mi (by decide +kernel) (pa_cons (pe_cmpR op_ge (pe_callB call_abs rfl ma (by decide +kernel) (pa_cons (pv 2) pa_nil)) (pe_op op_pow pe_int pe_int) (nomark _)) pa_nil)))
      (pa_cons (pe_op op_add (pe_op op_add (pe_op op_mod (pv 2) pe_int) (pe_op op_mul pe_int (pv 1))) pe_int) (pa_cons pe_int pa_nil)))))), ?_⟩
  refine ⟨_, rfl, _, rfl, a, ns, k, rfl, hS, h0, fun v => ?_⟩
  refine ⟨_, rfl, _, rfl, _, rfl, _, rfl, _, _, rfl, rfl, ⟨by decide, by decide, by decide⟩, _, _, rfl, rfl, ?_⟩
  refine Or.inr ⟨_, rfl, ?_⟩
  refine ⟨_, _, rfl, rfl, Or.inr (flag64 _), ?_⟩
  refine ⟨_, rfl, _, _, rfl, rfl, (by show (0 : Int) < 2305843009213693951; decide), _, rfl, _, _, rfl, rfl, .inl ⟨by decide, by decide⟩, _, _, rfl, rfl, _, _, rfl, rfl, ?_⟩
  refine ⟨(by show 3 ≤ sizeLine; exact small (by decide)), fun p hp => ?_⟩
  refine q p _ (same_new hp _) hp ⟨_, _, _, upd_same, ?_, ?_, ?_, Int.le_refl _, Int.le_refl _⟩
  · split <;> split <;> omega
  · have := Int.emod_nonneg v (show (2305843009213693951 : Int) ≠ 0 by decide)
    omega
  · have := Int.emod_lt_of_pos v (show (0 : Int) < 2305843009213693951 by decide)
    omega
theorem ok_take1 {n : Nat} (F : Fun K "_law_take" "_law_take" S_take f fd) (G : FnOk P w K mg base CX0 n f fd P_take (spTake n)) (bG : Binds K fd P_take []) (mG : mg "_law_take" = some (.ref f)) :
    FnOk P w K mg base CX0 (n + 1) f fd P_take (spTake (n + 1)) := by
  refine F.ok sc_take (fun vs H Q E h => ?_) (fun cdv A outer s H vs Q E hr h => ?_)
  · obtain ⟨p, m, c, e, rfl, _⟩ := h
    rfl
  obtain ⟨p, m, c, e, rfl, ⟨b0, b1, b2, hb, p0, p1, p1', p2, p2'⟩, hc, m1, m2, _, hn, q⟩ := h
  refine ⟨_, pss_cons (ps_if (pt_cmpR op_gt (pe_ix ix_list (pv 0) pe_int (fun _ _ => rfl)) pe_int (nomark _))
      (pss_cons (ps_set (i := 2) sc_take.nd rfl (Or.inl rfl) (pe_op op_mod (pe_ix ix_list (pv 0) pe_int (fun _ _ => rfl)) (pv 1)))
        (pss_cons (ps_asg (pe_op op_fdiv (pe_ix ix_list (pv 0) pe_int (fun _ _ => rfl)) (pv 1)) (pg_sub (pv 0) pe_int set_list))
          (pss_one (ps_ret (pv 2))))) pss_nil)
    (pss_cons (ps_if (pt_cmpR op_gt (pv 1) (pe_op op_pow pe_int pe_int) (nomark _))
      (pss_one (ps_ret (pe_op op_mod (pe_op op_add (pe_call G hr rfl mG F.kp bG .nil pass0 (pa_cons (pv 0) (pa_cons (pe_op op_pow pe_int pe_int) pa_nil)))
        (pe_op op_mul (pe_op op_pow pe_int pe_int) (pe_call G hr rfl mG F.kp bG .nil pass0 (pa_cons (pv 0) (pa_cons (pe_op op_add (pe_op op_fdiv (pv 1) (pe_op op_pow pe_int pe_int)) pe_int) pa_nil))))) (pv 1)))) pss_nil)
    (pss_cons (ps_asg (pe_op op_add (pe_ix ix_list (pv 0) pe_int (fun _ _ => rfl)) pe_int) (pg_sub (pv 0) pe_int set_list))
    (pss_cons (ps_set (i := 3) sc_take.nd rfl (Or.inl rfl) (pe_op op_mod (pe_op op_mul (pe_op op_add (pe_ix ix_list (pv 0) pe_int (fun _ _ => rfl)) (pe_op op_mul pe_int (pe_ix ix_list (pv 0) pe_int (fun _ _ => rfl)))) (pe_op op_add pe_int (pe_ix ix_list (pv 0) pe_int (fun _ _ => rfl)))) pe_int))
    (pss_cons (ps_set (i := 4) sc_take.nd rfl (Or.inl rfl) (pe_op op_mod (pe_op op_mul (pe_op op_add (pe_op op_add (pv 3) (pe_ix ix_list (pv 0) pe_int (fun _ _ => rfl))) (pe_op op_fdiv (pe_ix ix_list (pv 0) pe_int (fun _ _ => rfl)) pe_int)) (pe_op op_add (pe_op op_mod (pv 3) pe_int) pe_int)) pe_int))
    (pss_one (ps_ret (pe_op op_mod (pe_op op_fdiv (pe_op op_mod (pe_op op_add (pe_op op_mul (pv 4) pe_int) (pv 3)) pe_int) pe_int) (pv 1)))))))), ?_⟩
  have i0 : atI [V.int b0, V.int b1, V.int b2] 0 = some (V.int b0) := atI_nat (j := 0) rfl
  refine ⟨_, rfl, p, _, _, _, rfl, rfl, SqL.of hb, i0, _, _, rfl, rfl, _, rfl, ?_⟩
  refine ite2 (fun z => ?_) (fun z => ?_)
  · have z' : b0 > 0 := of_decide_eq_true z
    refine ⟨_, rfl, p, _, _, _, rfl, rfl, SqL.of hb, i0, _, rfl, _, _, rfl, rfl, (by omega : (0 : Int) < m), ?_⟩
    refine ⟨_, rfl, p, _, _, _, rfl, rfl, SqL.of hb, i0, _, rfl, _, _, rfl, rfl, ⟨by omega, by omega⟩, ?_⟩
    refine ⟨_, rfl, p, _, _, 0, rfl, rfl, hb, rfl, ?_⟩
    refine ⟨_, rfl, q _ _ (Int.emod_nonneg _ (by omega)) (Int.emod_lt_of_pos _ (by omega)) (SameB.upd _) (Bx.upd (Int.ediv_nonneg p0 (by omega)) p1 p1' p2 (by omega))⟩
  · have z' : ¬ b0 > 0 := of_decide_eq_false (Bool.eq_false_iff.mpr z)
    refine ⟨_, rfl, _, _, rfl, rfl, ⟨by decide, by decide, by decide⟩, _, _, rfl, rfl, _, rfl, ?_⟩
    have e7 : (10 : Int) ^ Int.toNat 7 = 10000000 := by decide
    refine ite2 (fun y => ?_) (fun y => ?_)
    · have y' : m > 10 ^ Int.toNat 7 := of_decide_eq_true y
      rw [e7] at y'
      have n2 : 2 ≤ n + 1 ∧ c ≤ 2 ^ 50 ∧ e = 2 := by omega
      refine ⟨_, rfl, _, _, rfl, rfl, ⟨by decide, by decide, by decide⟩, p, _, c, 1, rfl, ⟨b0, b1, b2, hb, p0, p1, p1', p2, p2'⟩, by omega, by decide, by decide, by omega, .inl ⟨by decide, rfl⟩, fun v H1 v0 v1 s1 x1 => ?_⟩
      refine ⟨_, _, rfl, rfl, ⟨by decide, by decide, by decide⟩, _, rfl, _, rfl, _, _, rfl, rfl, ⟨by decide, by decide, by decide⟩, _, _, rfl, rfl, ⟨by decide, by decide⟩, _, _, rfl, rfl, ?_⟩
      have d7 : 0 ≤ m / 10 ^ Int.toNat 7 ∧ m / 10 ^ Int.toNat 7 ≤ 100 := by rw [e7]; omega
      refine ⟨p, _, c + 1, 1, rfl, x1, by omega, by omega, by omega, by omega, .inl ⟨by omega, rfl⟩, fun v' H2 v0' v1' s2 x2 => ?_⟩
      refine ⟨_, _, rfl, rfl, .inl ⟨by decide, by decide⟩, _, _, rfl, rfl, _, rfl, _, _, rfl, rfl, (by omega : (0 : Int) < m), ?_⟩
      exact q _ _ (Int.emod_nonneg _ (by omega)) (Int.emod_lt_of_pos _ (by omega)) (s1.trans s2) (x2.mono (by omega))
    · have i2 : atI [V.int b0, V.int b1, V.int b2] 2 = some (V.int b2) := atI_nat (j := 2) rfl
      refine ⟨_, rfl, p, _, _, _, rfl, rfl, SqL.of hb, i2, _, _, rfl, rfl, _, rfl, p, _, _, 2, rfl, rfl, hb, rfl, ?_⟩
      have j1 : atI [V.int b0, V.int b1, V.int (b2 + 1)] 1 = some (V.int b1) := atI_nat (j := 1) rfl
      have j2 : atI [V.int b0, V.int b1, V.int (b2 + 1)] 2 = some (V.int (b2 + 1)) := atI_nat (j := 2) rfl
      have e1 : b2 ≤ 2 ^ 50 + 2 := by omega
      refine ⟨_, rfl, p, _, _, _, rfl, rfl, SqL.of upd_same, j1, _, rfl, p, _, _, _, rfl, rfl, SqL.of upd_same, j2, _, _, rfl, rfl, .inl ⟨by decide, by decide⟩, _, _, rfl, rfl, _, rfl, p, _, _, _, rfl, rfl, SqL.of upd_same, j2, _, _, rfl, rfl, _, _, rfl, rfl, .inr ⟨by omega, by omega⟩, _, _, rfl, rfl, (by show (0 : Int) < 2147483647; decide), ?_⟩
      refine ⟨_, rfl, _, rfl, p, _, _, _, rfl, rfl, SqL.of upd_same, j2, _, _, rfl, rfl, _, rfl, p, _, _, _, rfl, rfl, SqL.of upd_same, j1, _, _, rfl, rfl, ⟨by decide, by decide⟩, _, _, rfl, rfl, _, rfl, _, _, rfl, rfl, (by show (0 : Int) < 40009; decide), _, _, rfl, rfl, _, _, rfl, rfl, .inr (fac7 _), _, _, rfl, rfl, (by show (0 : Int) < 2147483629; decide), ?_⟩
      refine ⟨_, rfl, _, _, rfl, rfl, .inr ⟨by decide, by decide⟩, _, rfl, _, _, rfl, rfl, _, _, rfl, rfl, (by show (0 : Int) < 2147483587; decide), _, _, rfl, rfl, ⟨by decide, by decide⟩, _, rfl, _, _, rfl, rfl, (by omega : (0 : Int) < m), ?_⟩
      exact q _ _ (Int.emod_nonneg _ (by omega)) (Int.emod_lt_of_pos _ (by omega)) (SameB.upd _) (Bx.upd p0 p1 p1' (by omega) (by omega))
theorem take_none : FnOk P w K mg base CX0 0 f fd P_take (spTake 0) := by
  have no : ∀ vs H Q E, ¬ spTake 0 vs H Q E := fun vs H Q E h => by
    obtain ⟨p, m, c, e, _, _, _, _, _, h1, _⟩ := h
    omega
  exact ⟨fun vs H Q E h => absurd h (no vs H Q E), fun A outer s H args us vs Q E _ _ _ _ h => absurd h (no vs H Q E)⟩
theorem ok_take (F : Fun K "_law_take" "_law_take" S_take f fd) (bG : Binds K fd P_take []) (mG : mg "_law_take" = some (.ref f)) : FnOk P w K mg base CX0 2 f fd P_take (spTake 2) :=
  ok_take1 F (ok_take1 F take_none bG mG) bG mG
def spSame (K : PySem.W.Frag) (n : Nat) : Sp := fun vs H Q _ => ∃ (x y : V), vs = [x, y] ∧ Sm K n H x y ∧ ∀ H', Same H H' → Q (.bl true) H'
theorem ok_same1 {n : Nat} (F : Fun K "_law_same" "_law_same" S_same f fd) (G : FnOk P w K mg base CX0 n f fd P_same (spSame K n)) (bG : Binds K fd P_same []) (mG : mg "_law_same" = some (.ref f)) (B : Blt mg) :
    FnOk P w K mg base CX0 (n + 1) f fd P_same (spSame K (n + 1)) := by
  refine F.ok sc_same (fun vs H Q E h => ?_) (fun cdv A outer s H vs Q E hr h => ?_)
  · obtain ⟨x, y, rfl, _⟩ := h
    rfl
  obtain ⟨x, y, rfl, hS, q⟩ := h
  refine ⟨_, pss_cons (ps_if (pt_val (pe_callB call_isiT rfl B.isinstance (by decide +kernel) (pa_cons (pv 1) (pa_cons (pe_tup (pa_cons (pe_bltn (v := .ty "list") rfl B.list (by decide +kernel) rfl) (pa_cons (pe_bltn (v := .ty "tuple") rfl B.tuple (by decide +kernel) rfl) pa_nil))) pa_nil))))
      (pss_cons (ps_if (PW.pt (pw_or
          (pt_cmpR op_ne (pe_callB call_isi rfl B.isinstance (by decide +kernel) (pa_cons (pv 0) (pa_cons (pe_bltn (v := .ty "list") rfl B.list (by decide +kernel) rfl) pa_nil)))
            (pe_callB call_isi rfl B.isinstance (by decide +kernel) (pa_cons (pv 1) (pa_cons (pe_bltn (v := .ty "list") rfl B.list (by decide +kernel) rfl) pa_nil))) (nomark _))
          (pw_or1 (pt_cmpR op_ne (pe_callB call_isi rfl B.isinstance (by decide +kernel) (pa_cons (pv 0) (pa_cons (pe_bltn (v := .ty "tuple") rfl B.tuple (by decide +kernel) rfl) pa_nil)))
            (pe_callB call_isi rfl B.isinstance (by decide +kernel) (pa_cons (pv 1) (pa_cons (pe_bltn (v := .ty "tuple") rfl B.tuple (by decide +kernel) rfl) pa_nil))) (nomark _)))))
        (pss_one (ps_ret pe_bl)) pss_nil)
      (pss_one (ps_ret (pe_and (pe_cmpR op_eq (pe_callB call_len_seq rfl B.len PySem.boot_len (pa_cons (pv 0) pa_nil)) (pe_callB call_len_seq rfl B.len PySem.boot_len (pa_cons (pv 1) pa_nil)) (nomark _))
        (pe_one (pe_callB (cr_all rfl) rfl B.all (by decide +kernel) (pa_cons
          (pe_lc (own := [("_law_a", 2), ("_law_b", 3)]) (g := gTup K 2 (gCons (gName 2) (gCons (gName 3) gNil))) rfl sc_same.nd (RZ.pi_zipA rfl B.zip (pa_cons (pv 0) (pa_cons (pv 1) pa_nil))) (blkOk_by (N := N_same) (sc := defScope S_same) (by decide +kernel))
            (fun _ _ _ _ _ => by exact pg_tup rfl (pgs_cons (pg_name (i := 2) sc_same.nd rfl (Or.inl rfl)) (pgs_cons (pg_name (i := 3) sc_same.nd rfl (Or.inl rfl)) pgs_nil)))
            (fun _ _ _ _ _ => pts_nil)
            (fun _ _ _ _ _ => pe_call G hr rfl mG F.kp bG .nil pass0 (pa_cons (pv 2) (pa_cons (pv 3) pa_nil)))) pa_nil))))))) pss_nil)
    (pss_cons (ps_if (PW.pt (pw_or (pt_cmpR op_isN (pv 1) pe_non (nomark _)) (pw_or1 (pt_val (pe_callB call_isiT rfl B.isinstance (by decide +kernel) (pa_cons (pv 1) (pa_cons (pe_tup (pa_cons (pe_bltn (v := .ty "bool") rfl B.bool (by decide +kernel) rfl) (pa_cons (pe_bltn (v := .ty "str") rfl B.str (by decide +kernel) rfl) pa_nil))) pa_nil)))))))
      (pss_one (ps_ret (pe_and (pe_cmpR op_eq (pv 0) (pv 1) (nomark _))
        (pe_and (pe_cmpR op_eq (pe_callB call_isi rfl B.isinstance (by decide +kernel) (pa_cons (pv 0) (pa_cons (pe_bltn (v := .ty "bool") rfl B.bool (by decide +kernel) rfl) pa_nil)))
            (pe_callB call_isi rfl B.isinstance (by decide +kernel) (pa_cons (pv 1) (pa_cons (pe_bltn (v := .ty "bool") rfl B.bool (by decide +kernel) rfl) pa_nil))) (nomark _))
          (pe_one (pe_cmpR op_eq (pe_cmpR op_isN (pv 0) pe_non (nomark _)) (pe_cmpR op_isN (pv 1) pe_non (nomark _)) (nomark _))))))) pss_nil)
    (pss_one (ps_ret (pe_and (pe_callB call_isi rfl B.isinstance (by decide +kernel) (pa_cons (pv 0) (pa_cons (pe_bltn (v := .ty "int") rfl B.int (by decide +kernel) rfl) pa_nil)))
        (pe_and (pe_not (pe_callB call_isi rfl B.isinstance (by decide +kernel) (pa_cons (pv 0) (pa_cons (pe_bltn (v := .ty "bool") rfl B.bool (by decide +kernel) rfl) pa_nil))))
          (pe_one (pe_cmpR op_eq (pv 0) (pv 1) (nomark _)))))))), ?_⟩
  have hS' := hS
  unfold Sm at hS
  rcases hS with ⟨rfl, hf⟩ | ⟨a, b, xs, ys, rfl, rfl, hq, hl, hm, hi⟩
  · cases x with
    | non =>
      refine ⟨_, rfl, (by show 2 ≤ sizeLine; exact small (by decide)), fun t ht => ?_⟩
      refine ⟨_, t, _, _, _, false, rfl, upd_same, .cons (.ty _) (.cons (.ty _) .nil), .base .non, kit2 (r1 := false) (r2 := false) (by decide +kernel) (by decide +kernel), _, rfl, ?_⟩
      refine iteF ?_
      refine ⟨_, rfl, rfl, _, rfl, ?_⟩
      refine iteT ?_
      refine iteT ?_
      refine ⟨_, rfl, _, rfl, rfl, _, rfl, ?_⟩
      refine iteT ?_
      refine ⟨_, rfl, _, _, _, _, false, rfl, .ty _, .base .non, kit_ty (by decide +kernel), _, rfl, _, _, _, _, false, rfl, .ty _, .base .non, kit_ty (by decide +kernel), rfl, _, rfl, ?_⟩
      refine iteT ?_
      exact ⟨_, rfl, rfl, _, rfl, rfl, rfl, q _ (same_new ht _)⟩
    | bl z =>
      refine ⟨_, rfl, (by show 2 ≤ sizeLine; exact small (by decide)), fun t ht => ?_⟩
      refine ⟨_, t, _, _, _, false, rfl, upd_same, .cons (.ty _) (.cons (.ty _) .nil), .base (.bl z), kit2 (r1 := false) (r2 := false) (by decide +kernel) (by decide +kernel), _, rfl, ?_⟩
      refine iteF ?_
      refine ⟨_, rfl, rfl, _, rfl, ?_⟩
      refine iteF ?_
      refine ⟨_, rfl, (by show 2 ≤ sizeLine; exact small (by decide)), fun t2 ht2 => ?_⟩
      refine ⟨_, t2, _, _, _, true, rfl, upd_same, .cons (.ty _) (.cons (.ty _) .nil), .base (.bl z), kit2 (r1 := true) (r2 := false) (by decide +kernel) (by decide +kernel), _, rfl, ?_⟩
      refine iteT ?_
      refine ⟨_, rfl, _, rfl, rfl, _, rfl, ?_⟩
      refine iteC (decide_eq_true rfl) ?_
      refine ⟨_, rfl, _, _, _, _, true, rfl, .ty _, .base (.bl z), kit_ty (by decide +kernel), _, rfl, _, _, _, _, true, rfl, .ty _, .base (.bl z), kit_ty (by decide +kernel), rfl, _, rfl, ?_⟩
      refine iteT ?_
      exact ⟨_, rfl, rfl, _, rfl, rfl, rfl, q _ ((same_new ht _).trans (same_new ht2 _))⟩
    | int z =>
      refine ⟨_, rfl, (by show 2 ≤ sizeLine; exact small (by decide)), fun t ht => ?_⟩
      refine ⟨_, t, _, _, _, false, rfl, upd_same, .cons (.ty _) (.cons (.ty _) .nil), .base (.int z), kit2 (r1 := false) (r2 := false) (by decide +kernel) (by decide +kernel), _, rfl, ?_⟩
      refine iteF ?_
      refine ⟨_, rfl, rfl, _, rfl, ?_⟩
      refine iteF ?_
      refine ⟨_, rfl, (by show 2 ≤ sizeLine; exact small (by decide)), fun t2 ht2 => ?_⟩
      refine ⟨_, t2, _, _, _, false, rfl, upd_same, .cons (.ty _) (.cons (.ty _) .nil), .base (.int z), kit2 (r1 := false) (r2 := false) (by decide +kernel) (by decide +kernel), _, rfl, ?_⟩
      refine iteF ?_
      refine ⟨_, rfl, _, _, _, _, true, rfl, .ty _, .base (.int z), kit_ty (by decide +kernel), _, rfl, ?_⟩
      refine iteT ?_
      refine ⟨_, rfl, _, _, _, _, false, rfl, .ty _, .base (.int z), kit_ty (by decide +kernel), _, rfl, _, rfl, ?_⟩
      refine iteT ?_
      refine ⟨_, rfl, _, rfl, rfl, ?_⟩
      have d : Q (.bl (decide (V.int z = V.int z))) (upd (upd H t (.tup [.ty "list", .ty "tuple"])) t2 (.tup [.ty "bool", .ty "str"])) := by
        rw [decide_eq_true rfl]
        exact q _ ((same_new ht _).trans (same_new ht2 _))
      exact d
    | str z =>
      refine ⟨_, rfl, (by show 2 ≤ sizeLine; exact small (by decide)), fun t ht => ?_⟩
      refine ⟨_, t, _, _, _, false, rfl, upd_same, .cons (.ty _) (.cons (.ty _) .nil), .base (.str z), kit2 (r1 := false) (r2 := false) (by decide +kernel) (by decide +kernel), _, rfl, ?_⟩
      refine iteF ?_
      refine ⟨_, rfl, rfl, _, rfl, ?_⟩
      refine iteF ?_
      refine ⟨_, rfl, (by show 2 ≤ sizeLine; exact small (by decide)), fun t2 ht2 => ?_⟩
      refine ⟨_, t2, _, _, _, true, rfl, upd_same, .cons (.ty _) (.cons (.ty _) .nil), .base (.str z), kit2 (r1 := false) (r2 := true) (by decide +kernel) (by decide +kernel), _, rfl, ?_⟩
      refine iteT ?_
      refine ⟨_, rfl, _, rfl, rfl, _, rfl, ?_⟩
      refine iteC (decide_eq_true rfl) ?_
      refine ⟨_, rfl, _, _, _, _, false, rfl, .ty _, .base (.str z), kit_ty (by decide +kernel), _, rfl, _, _, _, _, false, rfl, .ty _, .base (.str z), kit_ty (by decide +kernel), rfl, _, rfl, ?_⟩
      refine iteT ?_
      exact ⟨_, rfl, rfl, _, rfl, rfl, rfl, q _ ((same_new ht _).trans (same_new ht2 _))⟩
    | _ => exact Bool.noConfusion hf
  · rcases hq with ⟨h1, h2⟩ | ⟨h1, h2⟩
    · refine ⟨_, rfl, (by show 2 ≤ sizeLine; exact small (by decide)), fun t ht => ?_⟩
      have g1 := same_new ht (.tup [.ty "list", .ty "tuple"])
      refine ⟨_, t, _, _, _, true, rfl, upd_same, .cons (.ty _) (.cons (.ty _) .nil), tyL (g1.seq h2), kit2 (r1 := true) (r2 := false) (by decide +kernel) (by decide +kernel), _, rfl, ?_⟩
      refine iteT ?_
      refine ⟨_, rfl, _, _, _, _, true, rfl, .ty _, tyL (g1.seq h1), kit_ty (by decide +kernel), _, rfl, _, _, _, _, true, rfl, .ty _, tyL (g1.seq h2), kit_ty (by decide +kernel), rfl, _, rfl, ?_⟩
      refine iteF ?_
      refine ⟨_, rfl, _, _, _, _, false, rfl, .ty _, tyL (g1.seq h1), kit_ty (by decide +kernel), _, rfl, _, _, _, _, false, rfl, .ty _, tyL (g1.seq h2), kit_ty (by decide +kernel), rfl, _, rfl, ?_⟩
      refine iteF ?_
      refine ⟨_, rfl, a, _, rfl, .inl (g1.seq h1), _, rfl, b, _, rfl, .inl (g1.seq h2), rfl, _, rfl, ?_⟩
      refine iteC (by rw [hl]; exact decide_eq_true rfl) ?_
      refine ⟨_, rfl, _, rfl, a, b, xs, ys, rfl, .inl ⟨g1.seq h1, g1.seq h2, fun D hD => ?_⟩⟩
      refine lc_it (walk_zip (xs := xs) (ys := ys) (n := xs.length) (by omega)) (fun i H' => H' D = some (.lst (List.replicate i (.bl true))) ∧ Same (upd H t (.tup [.ty "list", .ty "tuple"])) H') ⟨upd_same, same_new hD _⟩ (fun i H' _ z => ⟨Same.seq (g1.trans z.2) h1, Same.seq (g1.trans z.2) h2⟩) ?_ ?_
      · intro i x H1 H2 hi' z y
        obtain ⟨z1, z2⟩ := z
        obtain ⟨T, u, v, rfl, hT, rfl, e1, e2⟩ := y
        have g2 := same_new hT (.tup [u, v])
        refine ⟨T, _, rfl, SqT.of upd_same, rfl, _, _, rfl, _, _, rfl, rfl, rfl, ?_⟩
        refine ⟨_, rfl, _, rfl, u, v, rfl, (hi i u v e1 e2).same (g1.trans (z2.trans g2)), fun H3 s3 => ?_⟩
        refine ⟨_, s3 _ _ (g2 _ _ z1), (by rw [List.length_replicate]; exact small1000 (by omega)), ?_, ?_⟩
        · rw [upd_same, List.replicate_succ']
        · exact fun c o hc => by
            have hc2 := s3 _ _ (g2 _ _ (z2 _ _ hc))
            rw [upd_ne (ne_of_none hc hD)]
            exact hc2
      · intro H1 z
        refine ⟨D, List.replicate xs.length true, rfl, SqL.of (by rw [List.map_replicate]; exact z.1), ?_⟩
        rw [show (List.replicate xs.length true).all id = true by simp]
        exact q _ (g1.trans z.2)
    · refine ⟨_, rfl, (by show 2 ≤ sizeLine; exact small (by decide)), fun t ht => ?_⟩
      have g1 := same_new ht (.tup [.ty "list", .ty "tuple"])
      refine ⟨_, t, _, _, _, true, rfl, upd_same, .cons (.ty _) (.cons (.ty _) .nil), tyT (seqT g1 h2), kit2 (r1 := false) (r2 := true) (by decide +kernel) (by decide +kernel), _, rfl, ?_⟩
      refine iteT ?_
      refine ⟨_, rfl, _, _, _, _, false, rfl, .ty _, tyT (seqT g1 h1), kit_ty (by decide +kernel), _, rfl, _, _, _, _, false, rfl, .ty _, tyT (seqT g1 h2), kit_ty (by decide +kernel), rfl, _, rfl, ?_⟩
      refine iteF ?_
      refine ⟨_, rfl, _, _, _, _, true, rfl, .ty _, tyT (seqT g1 h1), kit_ty (by decide +kernel), _, rfl, _, _, _, _, true, rfl, .ty _, tyT (seqT g1 h2), kit_ty (by decide +kernel), rfl, _, rfl, ?_⟩
      refine iteF ?_
      refine ⟨_, rfl, a, _, rfl, .inr (seqT g1 h1), _, rfl, b, _, rfl, .inr (seqT g1 h2), rfl, _, rfl, ?_⟩
      refine iteC (by rw [hl]; exact decide_eq_true rfl) ?_
      refine ⟨_, rfl, _, rfl, a, b, xs, ys, rfl, .inr ⟨seqT g1 h1, seqT g1 h2, fun D hD => ?_⟩⟩
      refine lc_it (walk_zipT (xs := xs) (ys := ys) (n := xs.length) (by omega)) (fun i H' => H' D = some (.lst (List.replicate i (.bl true))) ∧ Same (upd H t (.tup [.ty "list", .ty "tuple"])) H') ⟨upd_same, same_new hD _⟩ (fun i H' _ z => ⟨seqT (g1.trans z.2) h1, seqT (g1.trans z.2) h2⟩) ?_ ?_
      · intro i x H1 H2 hi' z y
        obtain ⟨z1, z2⟩ := z
        obtain ⟨T, u, v, rfl, hT, rfl, e1, e2⟩ := y
        have g2 := same_new hT (.tup [u, v])
        refine ⟨T, _, rfl, SqT.of upd_same, rfl, _, _, rfl, _, _, rfl, rfl, rfl, ?_⟩
        refine ⟨_, rfl, _, rfl, u, v, rfl, (hi i u v e1 e2).same (g1.trans (z2.trans g2)), fun H3 s3 => ?_⟩
        refine ⟨_, s3 _ _ (g2 _ _ z1), (by rw [List.length_replicate]; exact small1000 (by omega)), ?_, ?_⟩
        · rw [upd_same, List.replicate_succ']
        · exact fun c o hc => by
            have hc2 := s3 _ _ (g2 _ _ (z2 _ _ hc))
            rw [upd_ne (ne_of_none hc hD)]
            exact hc2
      · intro H1 z
        refine ⟨D, List.replicate xs.length true, rfl, SqL.of (by rw [List.map_replicate]; exact z.1), ?_⟩
        rw [show (List.replicate xs.length true).all id = true by simp]
        exact q _ (g1.trans z.2)
theorem same_none : FnOk P w K mg base CX0 0 f fd P_same (spSame K 0) := by
  have no : ∀ vs H Q E, ¬ spSame K 0 vs H Q E := fun vs H Q E h => by
    obtain ⟨x, y, _, h, _⟩ := h
    exact h
  exact ⟨fun vs H Q E h => absurd h (no vs H Q E), fun A outer s H args us vs Q E _ _ _ _ h => absurd h (no vs H Q E)⟩
theorem ok_same (F : Fun K "_law_same" "_law_same" S_same f fd) (bG : Binds K fd P_same []) (mG : mg "_law_same" = some (.ref f)) (B : Blt mg) : ∀ n, FnOk P w K mg base CX0 n f fd P_same (spSame K n)
  | 0 => same_none
  | n + 1 => ok_same1 F (ok_same F bG mG B n) bG mG B
end
end Ov

set_option Elab.async false
set_option linter.all false
set_option maxRecDepth 100000
set_option maxHeartbeats 4000000
namespace Ov
open PySem L2
/-! of: one of a list -/
def spOf (K : PySem.W.Frag) : Sp := fun vs H Q _ => ∃ (p q : Addr) (xs : List V) (c : Int), vs = [.ref p, .ref q] ∧ Bx H p c ∧ c ≤ 2 ^ 50 ∧ SqL K H q xs ∧ q ≠ p ∧ 0 < xs.length ∧ xs.length ≤ 1000 ∧
  ∀ (i : Nat) (v : V) (H' : Hp), xs[i]? = some v → SameB p H H' → Bx H' p (c + 1) → Q v H'
section
variable {P : Program} {w : World} {K : PySem.W.Frag} {mg : Str → Option Value} {base : Heap} {f : Addr} {fd : FuncData}
theorem ok_of (F : Fun K "_law_of" "_law_of" S_of f fd) {gT : Addr} {dT : FuncData} (GT : FnOk P w K mg base CX0 2 gT dT P_take (spTake 2)) (bT : Binds K dT P_take []) (kT : PySem.W.keepIn K (.ref gT) = true) (mT : mg "_law_take" = some (.ref gT)) (B : Blt mg) : FnOk P w K mg base CX0 3 f fd P_of (spOf K) := by
  refine F.ok sc_of (fun vs H Q E h => ?_) (fun cdv A outer s H vs Q E hr h => ?_)
  · obtain ⟨p, q, xs, c, rfl, _⟩ := h
    rfl
  obtain ⟨p, q, xs, c, rfl, hb, hc, hq, ne, l0, l1, k⟩ := h
  refine ⟨_, (pss_one (ps_ret (pe_ix ix_list (pv 1) (pe_call GT hr rfl mT kT bT .nil pass0 (pa_cons (pv 0) (pa_cons (pe_callB call_len_seq rfl B.len PySem.boot_len (pa_cons (pv 1) pa_nil)) pa_nil))) (fun _ _ => rfl)))), ?_⟩
  refine ⟨_, rfl, _, rfl, _, rfl, q, _, rfl, .inl hq, p, _, c, 1, rfl, hb, by omega, by omega, by omega, by decide, .inl ⟨by omega, rfl⟩, fun v H1 v0 v1 s1 x1 => ?_⟩
  have hv : v.toNat < xs.length := by omega
  have q1 : atI xs ((v.toNat : Nat) : Int) = some xs[v.toNat] := atI_nat (List.getElem?_eq_getElem hv)
  rw [show ((v.toNat : Nat) : Int) = v by omega] at q1
  exact ⟨q, _, _, _, rfl, rfl, sqL_sameB hq ne s1, q1, k v.toNat _ _ (List.getElem?_eq_getElem hv) s1 x1⟩
/-! strewn: the same numbers in some order -/
def spStrewn (K : PySem.W.Frag) : Sp := fun vs H Q _ => ∃ (p q : Addr) (ns : List Int) (c : Int), vs = [.ref p, .ref q] ∧ Bx H p c ∧ c ≤ 2 ^ 49 ∧ (SqL K H q (ns.map V.int) ∨ SqT K H q (ns.map V.int)) ∧ ns.length ≤ 1000 ∧
  ∀ (r : Addr) (ms : List Int) (H' : Hp), ms.Perm ns → H r = none → SameB p H H' → H' r = some (.lst (ms.map V.int)) → Bx H' p (c + ns.length) → Q (.ref r) H'
theorem ok_strewn (F : Fun K "_law_strewn" "_law_strewn" S_strewn f fd) {gT : Addr} {dT : FuncData} (GT : FnOk P w K mg base CX0 2 gT dT P_take (spTake 2)) (bT : Binds K dT P_take []) (kT : PySem.W.keepIn K (.ref gT) = true) (mT : mg "_law_take" = some (.ref gT)) (B : Blt mg) : FnOk P w K mg base CX0 3 f fd P_strewn (spStrewn K) := by
  refine F.ok sc_strewn (fun vs H Q E h => ?_) (fun cdv A outer s H vs Q E hr h => ?_)
  · obtain ⟨p, q, ns, c, rfl, _⟩ := h
    rfl
  obtain ⟨p, q, ns, c, rfl, hb, hc, hq, hn, k⟩ := h
  obtain ⟨y0, y1, y2, hp, _⟩ := id hb
  refine ⟨_, (Evl.pss_cut (ps_par (i := 2) (j := 3) rfl sc_strewn.nd rfl rfl (by decide) rfl rfl (pa_cons (pe_callTy call_list_of rfl B.list (by decide +kernel) (pa_cons (pv 1) pa_nil)) (pa_cons (pe_lst pa_nil) pa_nil)) rfl)
    (Evl.pss_cut (ps_while PassesOwn.never (pt_cmpR (op_neD hr.units) (pv 2) (pe_lst pa_nil) (nomark _))
      (pss_one (ps_expr (pe_bm PySem.F.plainAttrs_list PySem.F.slot_list_append PySem.F.type_list_append mt_append (pv 3) (pa_cons (pe_bm PySem.F.plainAttrs_list PySem.F.slot_list_pop PySem.F.type_list_pop mt_popAt (pv 2) (pa_cons (pe_call GT hr rfl mT kT bT .nil pass0 (pa_cons (pv 0) (pa_cons (pe_callB call_len_seq rfl B.len PySem.boot_len (pa_cons (pv 2) pa_nil)) pa_nil))) pa_nil)) pa_nil)))))
    (pss_one (ps_ret (pv 3))))), ?_⟩
  refine ⟨fun σ H' => ∃ l f, σ = [some (.ref p), some (.ref q), some (.ref l), some (.ref f)] ∧ Same H H' ∧ H l = none ∧ H f = none ∧ l ≠ f ∧ H' l = some (.lst (ns.map V.int)) ∧ H' f = some (.lst []), ?_, ?_⟩
  · refine ⟨_, rfl, q, _, rfl, hq, fun l hl => ?_⟩
    generalize eNew : upd _ l _ = H1
    obtain ⟨s1, u1⟩ := fresh_of eNew hl
    clear eNew
    refine ⟨smallB rfl, fun f hf => ?_⟩
    generalize eNew : upd _ f _ = H2
    obtain ⟨s2, u2⟩ := fresh_of eNew hf
    clear eNew
    exact ⟨_, _, rfl, l, f, rfl, s1.trans s2, hl, back_none s1 hf, ne_of_none u1 hf, s2 _ _ u1, u2⟩
  rintro σ H0 ⟨l, f, rfl, s0, nl, nf, lf, ul, uf⟩
  have lp : l ≠ p := fun e => by rw [e, hp] at nl; cases nl
  have fp : f ≠ p := fun e => by rw [e, hp] at nf; cases nf
  refine ⟨fun σ H' => ∃ ms : List Int, σ = [some (.ref p), some (.ref q), some (.ref l), some (.ref f)] ∧ SameB p H H' ∧ ms.Perm ns ∧ H' f = some (.lst (ms.map V.int)) ∧ Bx H' p (c + ns.length), ?_, ?_⟩
  · refine ⟨fun m σ H' => ∃ (ls fs : List Int), σ = [some (.ref p), some (.ref q), some (.ref l), some (.ref f)] ∧ ls.length = m ∧ SameB p H H' ∧ (fs ++ ls).Perm ns ∧ H' l = some (.lst (ls.map V.int)) ∧ H' f = some (.lst (fs.map V.int)) ∧ Bx H' p (c + fs.length),
      ⟨ns.length, ns, [], rfl, rfl, SameB.of s0, by rw [List.nil_append], ul, uf, (hb.same s0).mono (by simp)⟩, ?_⟩
    rintro m σ H' ⟨ls, fs, rfl, hm, sB, pm, hl, hf, bx⟩
    have len := pm.length_eq
    rw [List.length_append] at len
    refine ⟨_, rfl, smallB rfl, fun e he => ?_⟩
    generalize eNew : upd _ e _ = H1
    obtain ⟨s1, u1⟩ := fresh_of eNew he
    clear eNew
    refine ⟨dInts ls, .list [], dp_ints (SqL.of (s1 _ _ hl)), .lst (SqL.of u1) .nil, sh_ints ls, rfl, ?_⟩
    rw [eqv_nil]
    refine ⟨_, rfl, ?_⟩
    cases ls with
    | nil =>
      refine iteF ?_
      rw [List.append_nil] at pm
      have el : fs.length = ns.length := by simpa using len
      exact ⟨fs, rfl, sB.trans (SameB.of s1), pm, s1 _ _ hf, (bx.same s1).mono (by omega)⟩
    | cons a r =>
      refine iteT ?_
      rw [List.length_cons] at len hm
      refine ⟨_, fun _ _ z => z, ?_⟩
      refine ⟨_, rfl, .inl ⟨rfl, _, SqL.of (s1 _ _ hf)⟩, _, rfl, .inl ⟨rfl, _, SqL.of (s1 _ _ hl)⟩, _, rfl, _, rfl, l, _, rfl, .inl (SqL.of (s1 _ _ hl)), p, _, c + fs.length, 1, rfl, bx.same s1, by omega, ?_, ?_, by decide, .inl ⟨?_, rfl⟩, fun v H2 v0 v1 s2 x2 => ?_⟩
      · rw [List.length_map, List.length_cons]; omega
      · rw [List.length_map, List.length_cons]; omega
      · rw [List.length_map, List.length_cons]; omega
      rw [List.length_map] at v1
      have hv : v.toNat < (a :: r).length := by omega
      have hl2 := s2 _ _ lp (s1 _ _ hl)
      have hf2 := s2 _ _ fp (s1 _ _ hf)
      refine ⟨l, _, v, v.toNat, .int ((a :: r)[v.toNat]), rfl, rfl, hl2, by omega, by rw [List.length_cons] at v1; omega, ?_, ?_, ?_⟩
      · exact seq_ix v0 (by rw [List.length_map]; exact v1)
      · rw [List.getElem?_map, List.getElem?_eq_getElem hv]
        rfl
      rw [erase_int]
      generalize eMut : upd _ l _ = H3
      obtain ⟨s3, u3⟩ := mut_of eMut
      clear eMut
      refine ⟨f, _, _, rfl, rfl, s3 _ _ (Ne.symm lf) hf2, ?_, ?_⟩
      · rw [List.length_map]
        exact small1000 (by omega)
      generalize eMut : upd _ f _ = H4
      obtain ⟨s4, u4⟩ := mut_of eMut
      clear eMut
      have hy := List.getElem?_eq_getElem hv
      refine ⟨((a :: r).eraseIdx v.toNat).length, by rw [List.length_eraseIdx_of_lt hv, List.length_cons]; omega, (a :: r).eraseIdx v.toNat, fs ++ [(a :: r)[v.toNat]], rfl, rfl, ?_, ?_, ?_, ?_, ?_⟩
      · intro b o hb' ho
        have hbl : b ≠ l := ne_of_none ho nl
        have hbf : b ≠ f := ne_of_none ho nf
        exact s4 _ _ hbf (s3 _ _ hbl (s2 _ _ hb' (s1 _ _ (sB _ _ hb' ho))))
      · refine List.Perm.trans ?_ pm
        rw [List.append_assoc]
        exact (erase_perm _ _ _ hy).append_left fs
      · exact s4 _ _ lf u3
      · rw [u4, List.map_append]
        rfl
      · obtain ⟨z0, z1, z2, hz, zr⟩ := x2
        refine ⟨z0, z1, z2, s4 _ _ (Ne.symm fp) (s3 _ _ (Ne.symm lp) hz), ?_⟩
        rw [List.length_append, List.length_singleton]
        refine ⟨zr.1, zr.2.1, zr.2.2.1, zr.2.2.2.1, by omega⟩
  · rintro σ H' ⟨ms, rfl, sB, pm, hf, bx⟩
    exact ⟨_, rfl, k f ms H' pm nf sB hf bx⟩
/-! souls: so many different numbers, ascending -/
def spSouls : Sp := fun vs H Q _ => ∃ (p : Addr) (n c : Int), vs = [.ref p, .int n] ∧ 0 ≤ n ∧ n ≤ 60 ∧ Bx H p c ∧ c ≤ 2 ^ 49 ∧
  ∀ (r : Addr) (ns : List Int) (H' : Hp), (ns.length : Int) = n → ns.Pairwise (· < ·) → (∀ x ∈ ns, 1 ≤ x ∧ x ≤ 1000000000) → H r = none → SameB p H H' → H' r = some (.lst (ns.map V.int)) → Bx H' p (c + 1 + 2 * n) → Q (.ref r) H'
theorem ok_souls (F : Fun K "_law_souls" "_law_souls" S_souls f fd) {gT : Addr} {dT : FuncData} (GT : FnOk P w K mg base CX0 2 gT dT P_take (spTake 2)) (bT : Binds K dT P_take []) (kT : PySem.W.keepIn K (.ref gT) = true) (mT : mg "_law_take" = some (.ref gT)) {gO : Addr} {dO : FuncData} (GO : FnOk P w K mg base CX0 3 gO dO P_of (spOf K)) (bO : Binds K dO P_of []) (kO : PySem.W.keepIn K (.ref gO) = true) (mO : mg "_law_of" = some (.ref gO)) (B : Blt mg) : FnOk P w K mg base CX0 4 f fd P_souls spSouls := by
  refine F.ok sc_souls (fun vs H Q E h => ?_) (fun cdv A outer s H vs Q E hr h => ?_)
  · obtain ⟨p, n, c, rfl, _⟩ := h
    rfl
  obtain ⟨p, n, c, rfl, n0, n1, hb, hc, k⟩ := h
  have hr2 : Room 2 _ := hr.mono (by decide)
  obtain ⟨y0, y1, y2, hp, _⟩ := id hb
  refine ⟨_, (Evl.pss_cut (ps_par (i := 2) (j := 3) rfl sc_souls.nd rfl rfl (by decide) rfl rfl (pa_cons pe_dnewK (pa_cons (pe_call GO hr rfl mO kO bO .nil pass0 (pa_cons (pv 0) (pa_cons (pe_lst (pa_cons (pv 1) (pa_cons (pe_op op_add (pe_op op_mul pe_int (pv 1)) pe_int) (pa_cons (pe_op op_pow pe_int pe_int) pa_nil)))) pa_nil))) pa_nil)) rfl)
    (Evl.pss_cut (ps_for PassesOwn.never rfl (pi_range1 rfl B.range (pa_cons (pv 1) pa_nil)) (pg_name (i := 4) sc_souls.nd rfl (Or.inl rfl))
      (Evl.pss_cut (ps_set (i := 5) sc_souls.nd rfl (Or.inl rfl) (pe_op op_add pe_int (pe_call GT hr2 rfl mT kT bT .nil pass0 (pa_cons (pv 0) (pa_cons (pe_callB (call_max2 rfl) rfl B.max (by decide +kernel) (pa_cons pe_int (pa_cons (pv 3) pa_nil))) pa_nil)))))
      (Evl.pss_cut (ps_while PassesOwn.never (pt_cmp (pc_din (hu_of hr) (pv 5) (pv 2)))
        (pss_one (ps_set (i := 5) sc_souls.nd rfl (Or.inl rfl) (pe_op op_add (pe_op op_mod (pv 5) (pe_callB (call_max2 rfl) rfl B.max (by decide +kernel) (pa_cons (pv 3) (pa_cons (pv 1) pa_nil)))) pe_int))))
      (pss_one (ps_dput (hu_of hr) (pv 2) (pv 5) pe_bl rfl)))))
    (pss_one (ps_ret (pe_callB (call_sortedDI rfl) rfl B.sorted (by decide +kernel) (pa_cons (pv 2) pa_nil)))))), ?_⟩
  refine ⟨fun σ H' => ∃ (d : Addr) (t : Int), σ = [some (.ref p), some (.int n), some (.ref d), some (.int t), none, none] ∧ n ≤ t ∧ 0 ≤ t ∧ t ≤ 1000000000 ∧ H d = none ∧ SameB p H H' ∧ H' d = some (.dK []) ∧ Bx H' p (c + 1), ?_, ?_⟩
  · refine fun d hd => ?_
    generalize eNew : upd _ d _ = H1
    obtain ⟨s1, u1⟩ := fresh_of eNew hd
    clear eNew
    refine ⟨_, rfl, _, rfl, _, rfl, _, _, rfl, rfl, .inl ⟨by decide, by decide⟩, _, _, rfl, rfl, _, _, rfl, rfl, ⟨by decide, by decide, by decide⟩, smallB rfl, fun q hq => ?_⟩
    generalize eNew : upd _ q _ = H2
    obtain ⟨s2, u2⟩ := fresh_of eNew hq
    clear eNew
    have dp : d ≠ p := fun e => by rw [e, hp] at hd; cases hd
    have qp : q ≠ p := fun e => by rw [e, s1 _ _ hp] at hq; cases hq
    refine ⟨p, q, _, c, rfl, (hb.same s1).same s2, by omega, SqL.of u2, qp, (by show 0 < 3; decide), (by show 3 ≤ 1000; decide), fun i v H3 hi s3 x3 => ?_⟩
    have fin : ∀ t : Int, v = .int t → n ≤ t → t ≤ 1000000000 → ∃ vs w, [V.ref d, v] = [vs, w] ∧ (∃ (d' : Addr) (t : Int), [some (V.ref p), some (.int n), some vs, some w, none, none] = [some (.ref p), some (.int n), some (.ref d'), some (.int t), none, none] ∧ n ≤ t ∧ 0 ≤ t ∧ t ≤ 1000000000 ∧ H d' = none ∧ SameB p H H3 ∧ H3 d' = some (.dK []) ∧ Bx H3 p (c + 1)) := by
      rintro t rfl h1 h2
      exact ⟨_, _, rfl, d, t, rfl, h1, by omega, h2, hd, (SameB.of (s1.trans s2)).trans s3, s3 _ _ dp (s2 _ _ u1), x3⟩
    have hi3 : i < 3 := (List.getElem?_eq_some_iff.mp hi).1
    match i, hi3 with
    | 0, _ =>
      cases hi
      exact fin n rfl (by omega) (by omega)
    | 1, _ =>
      cases hi
      exact fin (3 * n + 1) rfl (by omega) (by omega)
    | 2, _ =>
      cases hi
      exact fin _ rfl (by have : (10 : Int) ^ Int.toNat 9 = 1000000000 := by decide
                          omega) (by decide)
  rintro σ H0 ⟨d, t, rfl, t0, t1, t2, nd, s0, u0, b0⟩
  have dp : d ≠ p := fun e => by rw [e, hp] at nd; cases nd
  refine ⟨fun σ H' => ∃ (ks : List Int) (x4 x5 : Option V), σ = [some (.ref p), some (.int n), some (.ref d), some (.int t), x4, x5] ∧ (ks.length : Int) = n ∧ ks.Nodup ∧ (∀ x ∈ ks, 1 ≤ x ∧ x ≤ 1000000000) ∧ SameB p H H' ∧ H' d = some (.dK (kvs ks)) ∧ Bx H' p (c + 1 + 2 * n), ?_, ?_⟩
  · refine ⟨_, rfl, n, rfl, by omega, by omega, ?_⟩
    refine for_range (lo := 0) (n := n.toNat) (fun i σ H' => ∃ (ks : List Int) (x4 x5 : Option V), σ = [some (.ref p), some (.int n), some (.ref d), some (.int t), x4, x5] ∧ ks.length = i ∧ ks.Nodup ∧ (∀ x ∈ ks, 1 ≤ x ∧ x ≤ 1000000000) ∧ SameB p H H' ∧ H' d = some (.dK (kvs ks)) ∧ Bx H' p (c + 1 + 2 * i))
      ⟨[], _, _, rfl, rfl, .nil, (fun x hx => nomatch hx), s0, u0, b0.mono (by omega)⟩ ?_ ?_
    · rintro i σ HI hi ⟨ks, x4, x5, rfl, hk, kn, kb, sI, uI, bI⟩
      have hM : ∃ M : Int, M = (if n > t then n else t) ∧ (ks.length : Int) < M ∧ M ≤ 1000000000 ∧ (if t > 1 then t else 1) ≤ M := by
        refine ⟨_, rfl, ?_, ?_, ?_⟩
        · split <;> omega
        · split <;> omega
        · split <;> split <;> omega
      obtain ⟨M, eM, kM, M1, tM⟩ := hM
      refine ⟨fun σ H' => ∃ v : Int, 0 ≤ v ∧ v < M ∧ σ = [some (.ref p), some (.int n), some (.ref d), some (.int t), some (.int (0 + i)), some (.int (v % M + 1))] ∧ SameB p HI H' ∧ Bx H' p (c + 1 + 2 * (i + 1)), ?_, ?_⟩
      · refine ⟨_, rfl, _, rfl, _, _, rfl, p, _, c + 1 + 2 * i, 2, rfl, bI, by omega, ?_, ?_, by decide, .inr ⟨by decide, by omega, rfl⟩, fun v H1 v0 v1 s1 x1 => ?_⟩
        · split <;> omega
        · split <;> omega
        refine ⟨_, _, rfl, rfl, v, v0, by omega, ?_, s1, x1.mono (by omega)⟩
        rw [Int.emod_eq_of_lt v0 (by omega), Int.add_comm v 1]
        rfl
      rintro σ H1 ⟨v, v0, v1, rfl, s1, x1⟩
      have hd1 := s1 _ _ dp uI
      obtain ⟨m, hm⟩ := free_step ks v M kM
      refine ⟨fun σ H' => ∃ y : Int, σ = [some (.ref p), some (.int n), some (.ref d), some (.int t), some (.int (0 + i)), some (.int y)] ∧ y ∉ ks ∧ 1 ≤ y ∧ y ≤ M ∧ H' = H1, ?_, ?_⟩
      · refine ⟨fun m σ H' => ∃ x : Int, σ = [some (.ref p), some (.int n), some (.ref d), some (.int t), some (.int (0 + i)), some (.int (x % M + 1))] ∧ (x + m) % M + 1 ∉ ks ∧ H' = H1, ⟨m, v, rfl, hm, rfl⟩, ?_⟩
        rintro m σ H' ⟨x, rfl, hx, rfl⟩
        refine ⟨_, rfl, _, rfl, d, _, rfl, DGet.k (k := Sum.inl (x % M + 1)) hd1, _, rfl, ?_⟩
        rw [kvs_val]
        have h1 := Int.emod_nonneg x (show M ≠ 0 by omega)
        have h2 := Int.emod_lt_of_pos x (show 0 < M by omega)
        by_cases hin : x % M + 1 ∈ ks
        · rw [decide_eq_true hin]
          refine iteT ?_
          refine ⟨_, fun _ _ z => z, ?_⟩
          refine ⟨_, rfl, _, rfl, _, rfl, _, _, rfl, _, _, rfl, rfl, ?_, _, _, rfl, rfl, ?_⟩
          · show 0 < (if n > t then n else t)
            rw [← eM]
            omega
          cases m with
          | zero =>
            rw [show (x + ((0 : Nat) : Int)) = x by omega] at hx
            exact absurd hin hx
          | succ m =>
            refine ⟨m, Nat.lt_succ_self _, x + 1, ?_, ?_, rfl⟩
            · rw [← step_mod (show 0 < M by omega), eM]
              rfl
            · rw [show x + 1 + (m : Int) = x + ((m + 1 : Nat) : Int) by omega]
              exact hx
        · rw [decide_eq_false hin]
          refine iteF ?_
          exact ⟨_, rfl, hin, by omega, by omega, rfl⟩
      rintro σ H2 ⟨y, rfl, hy, y0', y1', rfl⟩
      refine ⟨_, rfl, _, rfl, d, _, rfl, DPut.k (k := Sum.inl y) hd1 ?_, ?_⟩
      · unfold kvs
        rw [List.length_map]
        exact small1000 (by omega)
      rw [kvs_put hy]
      generalize eMut : upd _ d _ = H3
      obtain ⟨s3, u3⟩ := mut_of eMut
      clear eMut
      refine ⟨ks ++ [y], _, _, rfl, by rw [List.length_append, List.length_singleton, hk], ?_, ?_, ?_, u3, ?_⟩
      · refine List.nodup_append.mpr ⟨kn, by simp, fun a ha b hb' e => ?_⟩
        rw [List.mem_singleton] at hb'
        subst hb'
        subst e
        exact hy ha
      · intro x hx
        rcases List.mem_append.mp hx with hx | hx
        · exact kb x hx
        · rw [List.mem_singleton] at hx
          subst hx
          omega
      · intro b o hbp ho
        exact s3 _ _ (ne_of_none ho nd) (s1 _ _ hbp (sI _ _ hbp ho))
      · obtain ⟨z0, z1, z2, hz, zr⟩ := x1
        exact ⟨z0, z1, z2, s3 _ _ (Ne.symm dp) hz, zr.1, zr.2.1, zr.2.2.1, zr.2.2.2.1, by have := zr.2.2.2.2; omega⟩
    · rintro σ H' ⟨ks, x4, x5, rfl, hk, kn, kb, sI, uI, bI⟩
      exact ⟨ks, x4, x5, rfl, by omega, kn, kb, sI, uI, bI.mono (by omega)⟩
  rintro σ H' ⟨ks, x4, x5, rfl, hk, kn, kb, sI, uI, bI⟩
  refine ⟨_, rfl, d, _, ks, rfl, .inl uI, kvs_keys ks, by omega, fun ys r pm pw hr' => ?_⟩
  generalize eNew : upd _ r _ = H''
  obtain ⟨s', u'⟩ := fresh_of eNew hr'
  clear eNew
  have ln := pm.length_eq
  refine k r ys H'' (by omega) (sort_lt pw (pm.nodup_iff.mpr kn)) (fun x hx => kb x (pm.mem_iff.mp hx)) ?_ (sI.trans (SameB.of s')) u' (bI.same s')
  cases e : H r with
  | none => rfl
  | some o =>
    by_cases rp : r = p
    · subst rp
      obtain ⟨z0, z1, z2, hz, _⟩ := bI
      rw [hz] at hr'
      cases hr'
    · rw [sI _ _ rp e] at hr'
      cases hr'
/-! crowd: a row of at most so many people -/
def spCrowd : Sp := fun vs H Q _ => ∃ (p : Addr) (m c : Int), vs = [.ref p, .int m] ∧ 0 ≤ m ∧ m ≤ 59 ∧ Bx H p c ∧ c ≤ 2 ^ 48 ∧
  ∀ (r : Addr) (ns : List Int) (H' : Hp), (ns.length : Int) ≤ m → ns.Nodup → (∀ x ∈ ns, 1 ≤ x ∧ x ≤ 1000000000) → H r = none → SameB p H H' → H' r = some (.tup (ns.map V.int)) → Bx H' p (c + 1000) → Q (.ref r) H'
theorem back_noneB {H H' : Hp} {p r : Addr} {c : Int} (s : SameB p H H') (bx : Bx H' p c) (h : H' r = none) : H r = none := by
  cases e : H r with
  | none => rfl
  | some o =>
    by_cases rp : r = p
    · subst rp
      obtain ⟨z0, z1, z2, hz, _⟩ := bx
      rw [hz] at h
      cases h
    · rw [s _ _ rp e] at h
      cases h
theorem lt_nodup : ∀ {l : List Int}, l.Pairwise (· < ·) → l.Nodup
  | [], _ => .nil
  | a :: r, h => by
    have h' := List.pairwise_cons.mp h
    exact List.nodup_cons.mpr ⟨fun m => absurd (h'.1 a m) (by omega), lt_nodup h'.2⟩
theorem ok_crowd (F : Fun K "_law_crowd" "_law_crowd" S_crowd f fd) {gT : Addr} {dT : FuncData} (GT : FnOk P w K mg base CX0 2 gT dT P_take (spTake 2)) (bT : Binds K dT P_take []) (kT : PySem.W.keepIn K (.ref gT) = true) (mT : mg "_law_take" = some (.ref gT)) {gU : Addr} {dU : FuncData} (GU : FnOk P w K mg base CX0 4 gU dU P_souls spSouls) (bU : Binds K dU P_souls []) (kU : PySem.W.keepIn K (.ref gU) = true) (mU : mg "_law_souls" = some (.ref gU)) {gW : Addr} {dW : FuncData} (GW : FnOk P w K mg base CX0 3 gW dW P_strewn (spStrewn K)) (bW : Binds K dW P_strewn []) (kW : PySem.W.keepIn K (.ref gW) = true) (mW : mg "_law_strewn" = some (.ref gW)) (B : Blt mg) : FnOk P w K mg base CX0 5 f fd P_crowd spCrowd := by
  refine F.ok sc_crowd (fun vs H Q E h => ?_) (fun cdv A outer s H vs Q E hr h => ?_)
  · obtain ⟨p, m, c, rfl, _⟩ := h
    rfl
  obtain ⟨p, m, c, rfl, m0, m1, hb, hc, k⟩ := h
  have hr2 : Room 2 _ := hr.mono (by decide)
  have hr3 : Room 3 _ := hr.mono (by decide)
  obtain ⟨y0, y1, y2, hp, _⟩ := id hb
  refine ⟨_, (Evl.pss_cut (ps_set (i := 2) sc_crowd.nd rfl (Or.inl rfl) (pe_call GU hr rfl mU kU bU .nil pass0 (pa_cons (pv 0) (pa_cons (pe_call GT hr2 rfl mT kT bT .nil pass0 (pa_cons (pv 0) (pa_cons (pe_op op_add (pv 1) pe_int) pa_nil))) pa_nil))))
    (Evl.pss_cut (ps_if (pt_cmpR op_eq (pe_call GT hr2 rfl mT kT bT .nil pass0 (pa_cons (pv 0) (pa_cons pe_int pa_nil))) pe_int (nomark _)) (pss_one (ps_ret (pe_callTy call_tuple_of rfl B.tuple (by decide +kernel) (pa_cons (pe_call GW hr3 rfl mW kW bW .nil pass0 (pa_cons (pv 0) (pa_cons (pv 2) pa_nil))) pa_nil)))) pss_nil)
    (Evl.pss_cut (ps_set (i := 3) sc_crowd.nd rfl (Or.inl rfl) (pe_lst pa_nil))
    (Evl.pss_cut (ps_for PassesOwn.never rfl (pi_list (pe_revL (pv 2))) (pg_name (i := 4) sc_crowd.nd rfl (Or.inl rfl))
      (pss_one (ps_expr (pe_bm PySem.F.plainAttrs_list PySem.F.slot_list_insert PySem.F.type_list_insert mt_insert (pv 3) (pa_cons (pe_ifExp (pt_cmpR op_gt (pe_call GT hr2 rfl mT kT bT .nil pass0 (pa_cons (pv 0) (pa_cons pe_int pa_nil))) pe_int (nomark _)) (pe_op op_fdiv (pe_callB call_len_seq rfl B.len PySem.boot_len (pa_cons (pv 3) pa_nil)) pe_int) (pe_call GT hr2 rfl mT kT bT .nil pass0 (pa_cons (pv 0) (pa_cons (pe_op op_add (pe_callB call_len_seq rfl B.len PySem.boot_len (pa_cons (pv 3) pa_nil)) pe_int) pa_nil)))) (pa_cons (pv 4) pa_nil))))))
    (pss_one (ps_ret (pe_callTy call_tuple_of rfl B.tuple (by decide +kernel) (pa_cons (pv 3) pa_nil)))))))), ?_⟩
  refine ⟨fun σ H' => ∃ (q : Addr) (ns : List Int), σ = [some (.ref p), some (.int m), some (.ref q), none, none] ∧ (ns.length : Int) ≤ m ∧ ns.Nodup ∧ (∀ x ∈ ns, 1 ≤ x ∧ x ≤ 1000000000) ∧ SameB p H H' ∧ H q = none ∧ H' q = some (.lst (ns.map V.int)) ∧ Bx H' p (c + 200), ?_, ?_⟩
  · refine ⟨_, rfl, _, rfl, _, rfl, _, _, rfl, rfl, p, _, c, 2, rfl, hb, by omega, by omega, by omega, by decide, .inr ⟨by decide, by omega, rfl⟩, fun v H1 v0 v1 s1 x1 => ?_⟩
    refine ⟨p, v, c + 2, rfl, v0, by omega, x1, by omega, fun r ns H2 hl hw hx nr s2 u2 x2 => ?_⟩
    exact ⟨r, ns, rfl, by omega, lt_nodup hw, hx, s1.trans s2, back_noneB s1 x1 nr, u2, x2.mono (by omega)⟩
  rintro σ H0 ⟨q, ns, rfl, nl, nn, nx, s0, nq, uq, b0⟩
  have qp : q ≠ p := fun e => by rw [e, hp] at nq; cases nq
  refine ⟨fun σ H' => σ = [some (.ref p), some (.int m), some (.ref q), none, none] ∧ SameB p H0 H' ∧ Bx H' p (c + 201), ?_, ?_⟩
  · refine ⟨_, rfl, p, _, c + 200, 1, rfl, b0, by omega, by decide, by decide, by decide, .inl ⟨by decide, rfl⟩, fun v H1 v0 v1 s1 x1 => ?_⟩
    refine ⟨rfl, _, rfl, ?_⟩
    refine ite2 (fun z => ?_) (fun z => ?_)
    · refine ⟨_, rfl, _, rfl, p, q, ns, c + 201, rfl, x1.mono (by omega), by omega, .inl (SqL.of (s1 _ _ qp uq)), by omega, fun r ms H2 pm nr s2 u2 x2 => ?_⟩
      refine ⟨r, _, rfl, .inl ⟨SqL.of u2, fun t ht => ?_⟩⟩
      generalize eNew : upd _ t _ = H3
      obtain ⟨s3, u3⟩ := fresh_of eNew ht
      clear eNew
      have ln := pm.length_eq
      have sA := ((s0.trans s1).trans s2).trans (SameB.of s3)
      exact k t ms H3 (by omega) (pm.nodup_iff.mpr nn) (fun x hx => nx x (pm.mem_iff.mp hx)) (back_noneB ((s0.trans s1).trans s2) x2 ht) sA u3 ((x2.same s3).mono (by omega))
    · exact ⟨rfl, s1, x1.mono (by omega)⟩
  rintro σ H1 ⟨rfl, s1, b1⟩
  have u1 := s1 _ _ qp uq
  refine ⟨fun σ H' => ∃ f, σ = [some (.ref p), some (.int m), some (.ref q), some (.ref f), none] ∧ Same H1 H' ∧ H1 f = none ∧ H' f = some (.lst []), ?_, ?_⟩
  · refine ⟨smallB rfl, fun f hf => ?_⟩
    generalize eNew : upd _ f _ = H2
    obtain ⟨s2, u2⟩ := fresh_of eNew hf
    clear eNew
    exact ⟨f, rfl, s2, hf, u2⟩
  rintro σ H2 ⟨f, rfl, s2, nf, u2⟩
  have fp : f ≠ p := fun e => by
    obtain ⟨z0, z1, z2, hz, _⟩ := b1
    rw [e, hz] at nf
    cases nf
  refine ⟨fun σ H' => ∃ (fs : List Int) (x4 : Option V), σ = [some (.ref p), some (.int m), some (.ref q), some (.ref f), x4] ∧ fs.Perm ns ∧ (∀ b o, b ≠ p → H1 b = some o → H' b = some o) ∧ H' f = some (.lst (fs.map V.int)) ∧ Bx H' p (c + 400), ?_, ?_⟩
  · refine ⟨_, rfl, q, _, rfl, SqL.of (s2 _ _ u1), fun t ht => ?_⟩
    generalize eNew : upd _ t _ = H3
    obtain ⟨s3, u3⟩ := fresh_of eNew ht
    clear eNew
    rw [← List.map_reverse] at u3
    have tp : t ≠ p := fun e => by
      obtain ⟨z0, z1, z2, hz, _⟩ := b1
      rw [e, s2 _ _ hz] at ht
      cases ht
    have tf : t ≠ f := fun e => by
      rw [e, u2] at ht
      cases ht
    refine ⟨t, rfl, ⟨_, SqL.of u3⟩, ?_⟩
    refine for_list (K := K) (xs := ns.reverse.map V.int) (fun i σ H' => ∃ (fs : List Int) (x4 : Option V), σ = [some (.ref p), some (.int m), some (.ref q), some (.ref f), x4] ∧ fs.Perm (ns.reverse.take i) ∧ (∀ b o, b ≠ p → H1 b = some o → H' b = some o) ∧ H' t = some (.lst (ns.reverse.map V.int)) ∧ H' f = some (.lst (fs.map V.int)) ∧ Bx H' p (c + 201 + 2 * i))
      ⟨[], _, rfl, .nil, fun b o _ ho => s3 _ _ (s2 _ _ ho), u3, s3 _ _ u2, ((b1.same s2).same s3).mono (by omega)⟩ ?_ ?_ ?_
    · rintro i σ H' _ ⟨fs, x4, rfl, _, _, ut, _⟩
      exact SqL.of ut
    · rintro i x σ HI hi ⟨fs, x4, rfl, pm, sI, ut, uf, bI⟩
      rw [List.getElem?_map] at hi
      obtain ⟨y, hy, rfl⟩ := Option.map_eq_some_iff.mp hi
      have il := (List.getElem?_eq_some_iff.mp hy).1
      rw [List.length_reverse] at il
      have fl := pm.length_eq
      rw [List.length_take, List.length_reverse] at fl
      have fin : ∀ (w : Int) (H' : Hp) (e : Int), 0 ≤ w → w < 2 ^ 63 → SameB p HI H' → Bx H' p (c + 201 + 2 * i + e) → e ≤ 2 → ∃ (l : Addr) (xs : List V) (j : Int) (z : V), V.ref f = .ref l ∧ [V.int w, V.int y] = [.int j, z] ∧ H' l = some (.lst xs) ∧ xs.length < sizeLine ∧ 0 ≤ j ∧ j < 2 ^ 63 ∧
          (∃ (fs : List Int) (x4' : Option V), [some (V.ref p), some (.int m), some (.ref q), some (.ref f), some (.int y)] = [some (.ref p), some (.int m), some (.ref q), some (.ref f), x4'] ∧ fs.Perm (ns.reverse.take (i + 1)) ∧ (∀ b o, b ≠ p → H1 b = some o → upd H' l (.lst (xs.take j.toNat ++ [z] ++ xs.drop j.toNat)) b = some o) ∧ upd H' l (.lst (xs.take j.toNat ++ [z] ++ xs.drop j.toNat)) t = some (.lst (ns.reverse.map V.int)) ∧ upd H' l (.lst (xs.take j.toNat ++ [z] ++ xs.drop j.toNat)) f = some (.lst (fs.map V.int)) ∧ Bx (upd H' l (.lst (xs.take j.toNat ++ [z] ++ xs.drop j.toNat))) p (c + 201 + 2 * (i + 1 : Nat))) := by
        intro w H' e w0 w1 sW bW e2
        refine ⟨f, fs.map V.int, w, .int y, rfl, rfl, sW _ _ fp uf, by rw [List.length_map]; exact small1000 (by omega), w0, w1, ?_⟩
        generalize eMut : upd _ f _ = H4
        obtain ⟨s4, u4⟩ := mut_of eMut
        clear eMut
        refine ⟨fs.take w.toNat ++ [y] ++ fs.drop w.toNat, _, rfl, ?_, fun b o hb ho => s4 _ _ (ne_of_none ho nf) (sW _ _ hb (sI _ _ hb ho)), s4 _ _ tf (sW _ _ tp ut), ?_, ?_⟩
        · rw [List.take_succ, hy]
          refine List.Perm.trans ?_ (pm.append_right [y])
          have e1 : (fs.take w.toNat ++ [y] ++ fs.drop w.toNat).Perm (y :: (fs.take w.toNat ++ fs.drop w.toNat)) := by
            rw [List.append_assoc]
            exact List.perm_middle
          rw [List.take_append_drop] at e1
          exact e1.trans (List.perm_append_singleton y fs).symm
        · rw [u4]
          simp [List.map_take, List.map_drop]
        · obtain ⟨z0, z1, z2, hz, zr⟩ := bW
          exact ⟨z0, z1, z2, s4 _ _ (Ne.symm fp) hz, zr.1, zr.2.1, zr.2.2.1, zr.2.2.2.1, by have := zr.2.2.2.2; omega⟩
      refine ⟨_, rfl, .inl ⟨rfl, _, SqL.of uf⟩, _, rfl, p, _, c + 201 + 2 * i, 1, rfl, bI, by omega, by decide, by decide, by decide, .inl ⟨by decide, rfl⟩, fun v H5 v0 v1 s5 x5 => ?_⟩
      refine ⟨_, _, rfl, rfl, _, rfl, ?_⟩
      have uf5 := s5 _ _ fp uf
      refine ite2 (fun z => ?_) (fun z => ?_)
      · refine ⟨_, rfl, f, _, rfl, .inl (SqL.of uf5), _, _, rfl, rfl, ⟨by decide, by decide⟩, _, rfl, ?_⟩
        have hl : (fs.map V.int).length = fs.length := List.length_map _
        exact fin _ H5 1 (by rw [hl]; omega) (by rw [hl]; omega) s5 x5 (by omega)
      · refine ⟨_, rfl, _, rfl, f, _, rfl, .inl (SqL.of uf5), _, _, rfl, rfl, p, _, c + 201 + 2 * i + 1, 1, rfl, x5, by omega, ?_, ?_, by decide, .inl ⟨?_, rfl⟩, fun v' H6 w0 w1 s6 x6 => ?_⟩
        · rw [List.length_map]; omega
        · rw [List.length_map]; omega
        · rw [List.length_map]; omega
        rw [List.length_map] at w1
        exact ⟨_, rfl, fin v' H6 2 w0 (by omega) (s5.trans s6) (x6.mono (by omega)) (by omega)⟩
    · rintro σ H' ⟨fs, x4, rfl, pm, sI, ut, uf, bI⟩
      rw [List.length_map, List.length_reverse] at bI
      rw [List.length_map, List.take_length] at pm
      exact ⟨fs, x4, rfl, pm.trans (List.reverse_perm ns), sI, uf, bI.mono (by omega)⟩
  rintro σ H' ⟨fs, x4, rfl, pm, sI, uf, bI⟩
  refine ⟨_, rfl, f, _, rfl, .inl ⟨SqL.of uf, fun t ht => ?_⟩⟩
  generalize eNew : upd _ t _ = H3
  obtain ⟨s3, u3⟩ := fresh_of eNew ht
  clear eNew
  have ln := pm.length_eq
  have sA : SameB p H H' := (s0.trans s1).trans sI
  exact k t fs H3 (by omega) (pm.nodup_iff.mpr nn) (fun x hx => nx x (pm.mem_iff.mp hx)) (back_noneB sA bI ht) (sA.trans (SameB.of s3)) u3 ((bI.same s3).mono (by omega))
end
end Ov

set_option Elab.async false
set_option linter.all false
set_option maxRecDepth 100000
set_option maxHeartbeats 4000000
namespace Ov
open PySem L2
section
variable {P : Program} {w : World} {K : PySem.W.Frag} {mg : Str → Option Value} {base : Heap} {f C : Addr} {fd : FuncData}
theorem iniKnown (F : Fun K "__init__" "Known.__init__" S_Known f fd) : FnOk P w K mg base CX0 1 f fd P_Known (spIni K C tlValueError "ValueError.__new__" "height") := by
  refine F.ok sc_Known (fun vs H Q E h => ?_) (fun cdv A outer s H vs Q E hr h => ?_)
  · obtain ⟨a, v, rfl, _⟩ := h
    rfl
  obtain ⟨a, v, rfl, T, hn, ha, q⟩ := h
  exact ⟨_, pss_one (ps_st1 (newId := "ValueError.__new__") PySem.F.store_ValueError (pv 0) (pv 1)), _, rfl, _, rfl, a, C, rfl, T, hn, ha, q⟩
theorem iniNoPerson (F : Fun K "__init__" "NoPerson.__init__" S_NoPerson f fd) : FnOk P w K mg base CX0 1 f fd P_NoPerson (spIni K C tlLookupError "LookupError.__new__" "height") := by
  refine F.ok sc_NoPerson (fun vs H Q E h => ?_) (fun cdv A outer s H vs Q E hr h => ?_)
  · obtain ⟨a, v, rfl, _⟩ := h
    rfl
  obtain ⟨a, v, rfl, T, hn, ha, q⟩ := h
  exact ⟨_, pss_one (ps_st1 (newId := "LookupError.__new__") PySem.F.store_LookupError (pv 0) (pv 1)), _, rfl, _, rfl, a, C, rfl, T, hn, ha, q⟩
theorem iniNoPlace (F : Fun K "__init__" "NoPlace.__init__" S_NoPlace f fd) : FnOk P w K mg base CX0 1 f fd P_NoPlace (spIni K C tlLookupError "LookupError.__new__" "place") := by
  refine F.ok sc_NoPlace (fun vs H Q E h => ?_) (fun cdv A outer s H vs Q E hr h => ?_)
  · obtain ⟨a, v, rfl, _⟩ := h
    rfl
  obtain ⟨a, v, rfl, T, hn, ha, q⟩ := h
  exact ⟨_, pss_one (ps_st1 (newId := "LookupError.__new__") PySem.F.store_LookupError (pv 0) (pv 1)), _, rfl, _, rfl, a, C, rfl, T, hn, ha, q⟩
theorem iniNoNumber (F : Fun K "__init__" "NoNumber.__init__" S_NoNumber f fd) : FnOk P w K mg base CX0 1 f fd P_NoNumber (spIni K C tlLookupError "LookupError.__new__" "number") := by
  refine F.ok sc_NoNumber (fun vs H Q E h => ?_) (fun cdv A outer s H vs Q E hr h => ?_)
  · obtain ⟨a, v, rfl, _⟩ := h
    rfl
  obtain ⟨a, v, rfl, T, hn, ha, q⟩ := h
  exact ⟨_, pss_one (ps_st1 (newId := "LookupError.__new__") PySem.F.store_LookupError (pv 0) (pv 1)), _, rfl, _, rfl, a, C, rfl, T, hn, ha, q⟩
end
structure Ad where
  Known : Addr
  NoPerson : Addr
  NoPlace : Addr
  NoNumber : Addr
structure Mks (P : Program) (w : World) (K : PySem.W.Frag) (mg : Str → Option Value) (base : Heap) (c : Ad) : Prop where
  Known : MkE P w K mg base c.Known 0 "Known" "height" (spIni K c.Known (tl 0) (nw 0) "height")
  NoPerson : MkE P w K mg base c.NoPerson 1 "NoPerson" "height" (spIni K c.NoPerson (tl 1) (nw 1) "height")
  NoPlace : MkE P w K mg base c.NoPlace 1 "NoPlace" "place" (spIni K c.NoPlace (tl 1) (nw 1) "place")
  NoNumber : MkE P w K mg base c.NoNumber 1 "NoNumber" "number" (spIni K c.NoNumber (tl 1) (nw 1) "number")
/-- E is wished of a new error of the class at C with one attribute -/
def Rsd (H : Hp) (E : XK) (C : Addr) (f : Str) (v : V) : Prop := ∀ d H', Same H H' → H d = none → H' d = some (.xd [(f, v)]) → E (.ref C) (some d) H'
theorem Rsd.later {H H1 : Hp} {E : XK} {C : Addr} {f : Str} {v : V} (r : Rsd H E C f v) (s : Same H H1) : Rsd H1 E C f v := fun d H' s' nd hd => r d H' (s.trans s') (back_none s nd) hd
def withOf (ns : List Int) (pl h : Int) : List Int := ns.take pl.toNat ++ [h] ++ ns.drop pl.toNat
def spWith (K : PySem.W.Frag) (c : Ad) : Sp := fun vs H Q E => ∃ (a : Addr) (ns : List Int) (pl h : Int), vs = [.ref a, .int pl, .int h] ∧ Sq K H a (ns.map V.int) ∧ ns.length ≤ 900 ∧
  (¬ (0 ≤ pl ∧ pl ≤ ns.length) → Rsd H E c.NoPlace "place" (.int pl)) ∧ (0 ≤ pl → pl ≤ ns.length → h ∈ ns → Rsd H E c.Known "height" (.int h)) ∧
  (0 ≤ pl → pl ≤ ns.length → h ∉ ns → ∀ p H', Same H H' → SqT K H' p ((withOf ns pl h).map V.int) → Q (.ref p) H')
def spWout (K : PySem.W.Frag) (c : Ad) : Sp := fun vs H Q E => ∃ (a : Addr) (ns : List Int) (h : Int), vs = [.ref a, .int h] ∧ Sq K H a (ns.map V.int) ∧ ns.length ≤ 901 ∧
  (h ∉ ns → Rsd H E c.NoPerson "height" (.int h)) ∧ (h ∈ ns → ∀ p H', Same H H' → SqT K H' p ((ns.filter (· ≠ h)).map V.int) → Q (.ref p) H')
section
variable {P : Program} {w : World} {K : PySem.W.Frag} {mg : Str → Option Value} {base : Heap} {f : Addr} {fd : FuncData} {c : Ad}
theorem ok_with (F : Fun K "with_person" "with_person" S_with_person f fd) (B : Blt mg) (M : Mks P w K mg base c) : FnOk P w K mg base (L2.CX P w) 3 f fd P_with_person (spWith K c) := by
  refine F.okX sc_with_person (fun vs H Q E h => ?_) (fun cdv A outer s H vs Q E hr h => ?_)
  · obtain ⟨a, ns, pl, h, rfl, _⟩ := h
    rfl
  obtain ⟨a, ns, pl, h, rfl, ha, hn, e1, e2, q⟩ := h
  have hr2 : Room 2 _ := hr
  have hl : (ns.map V.int).length = ns.length := List.length_map _
  refine ⟨_, (Evl.pss_cut (ps_if (PW.pt (pw_or (pt_cmpR op_lt (pv 1) pe_int (nomark _)) (pw_or1 (pt_cmpR op_gt (pv 1) (pe_callB call_len_seq rfl B.len PySem.boot_len (pa_cons (pv 0) pa_nil)) (nomark _))))) (pss_one (ps_raise rfl (takes_of rfl rfl rfl rfl) (pmk_ex M.NoPlace hr2 rfl (pa_cons (pv 1) pa_nil)))) pss_nil)
    (Evl.pss_cut (ps_if (pt_cmpR op_in_seq (pv 2) (pv 0) (by rfl)) (pss_one (ps_raise rfl (takes_of rfl rfl rfl rfl) (pmk_ex M.Known hr2 rfl (pa_cons (pv 2) pa_nil)))) pss_nil)
    (pss_one (ps_ret (pe_op op_catW (pe_op op_catW (pe_callTy call_tupW rfl B.tuple (by decide +kernel) (pa_cons (pe_slice sl_cutS (pv 0) po_none (po_some (pv 1))) pa_nil)) (pe_tup (pa_cons (pv 2) pa_nil))) (pe_callTy call_tupW rfl B.tuple (by decide +kernel) (pa_cons (pe_slice sl_cutS (pv 0) (po_some (pv 1)) po_none) pa_nil))))))), ?_⟩
  refine ⟨fun σ H' => σ = [some (.ref a), some (.int pl), some (.int h)] ∧ H' = H ∧ 0 ≤ pl ∧ pl ≤ ns.length, ?_, ?_⟩
  · refine ⟨_, rfl, _, _, rfl, rfl, _, rfl, ?_⟩
    refine ite2 (fun z => ?_) (fun z => ?_)
    · have z' : pl < 0 := of_decide_eq_true z
      exact ⟨_, rfl, _, rfl, rz_plain M.NoPlace.cl M.NoPlace.no (e1 (by omega))⟩
    · have z' : ¬ pl < 0 := fun y => z (decide_eq_true y)
      refine ⟨_, rfl, _, rfl, a, _, rfl, ha, _, _, rfl, rfl, _, rfl, ?_⟩
      refine ite2 (fun y => ?_) (fun y => ?_)
      · have y' : pl > ((ns.map V.int).length : Int) := of_decide_eq_true y
        rw [hl] at y'
        exact ⟨_, rfl, _, rfl, rz_plain M.NoPlace.cl M.NoPlace.no (e1 (by omega))⟩
      · have y' : ¬ pl > ((ns.map V.int).length : Int) := fun x => y (decide_eq_true x)
        rw [hl] at y'
        exact ⟨rfl, rfl, by omega, by omega⟩
  rintro σ H1 ⟨rfl, rfl, p0, p1⟩
  refine ⟨fun σ H' => σ = [some (.ref a), some (.int pl), some (.int h)] ∧ H' = H1 ∧ h ∉ ns, ?_, ?_⟩
  · refine ⟨_, rfl, _, rfl, a, _, rfl, ha, rfl, flat_ints ns, _, rfl, ?_⟩
    rw [in_ints]
    refine ite2 (fun z => ?_) (fun z => ?_)
    · exact ⟨_, rfl, _, rfl, rz_plain M.Known.cl M.Known.no (e2 p0 p1 (of_decide_eq_true z))⟩
    · exact ⟨rfl, rfl, fun y => z (decide_eq_true y)⟩
  rintro σ H2 ⟨rfl, rfl, hni⟩
  have h1 : pl ≤ ((ns.map V.int).length : Int) := by rw [hl]; exact p1
  have c1 : cutV (ns.map V.int) none (some pl) = (ns.take pl.toNat).map V.int := by rw [cut_to p0 h1, List.map_take]
  have c2 : cutV (ns.map V.int) (some pl) none = (ns.drop pl.toNat).map V.int := by rw [cut_from p0 h1, List.map_drop]
  have l1 : ((ns.take pl.toNat).map V.int).length ≤ 900 := by rw [List.length_map, List.length_take]; omega
  have l2 : ((ns.drop pl.toNat).map V.int).length ≤ 900 := by rw [List.length_map, List.length_drop]; omega
  refine ⟨_, rfl, _, rfl, pl, rfl, a, _, rfl, ha, fun q1 H3 s3 h3 => ?_⟩
  rw [c1] at h3
  refine ⟨q1, _, rfl, h3, fun q2 H4 s4 h4 => ?_⟩
  refine ⟨_, rfl, smallB rfl, fun q3 hq3 => ?_⟩
  generalize eNew : upd _ q3 _ = H5
  obtain ⟨s5, u5⟩ := fresh_of eNew hq3
  clear eNew
  refine ⟨q2, q3, _, _, rfl, rfl, seqT s5 h4, SqT.of u5, small (by show _ + 1 ≤ 1000; omega), fun q4 H6 s6 h6 => ?_⟩
  have w6 := (((same_refl H2).trans s3).trans s4).trans (s5.trans s6)
  refine ⟨_, rfl, _, rfl, pl, rfl, a, _, rfl, ha.same w6, fun q5 H7 s7 h7 => ?_⟩
  rw [c2] at h7
  refine ⟨q5, _, rfl, h7, fun q6 H8 s8 h8 => ?_⟩
  refine ⟨q4, q6, _, _, rfl, rfl, seqT s8 (seqT s7 h6), h8, small (by rw [List.length_append]; show _ + 1 + _ ≤ 1000; rw [List.length_map, List.length_map, List.length_take, List.length_drop]; omega), fun q7 H9 s9 h9 => ?_⟩
  refine q p0 p1 hni q7 H9 ((w6.trans s7).trans (s8.trans s9)) ?_
  unfold withOf
  rw [List.map_append, List.map_append]
  exact h9
def spChk (K : PySem.W.Frag) (c : Ad) : Sp := fun vs H Q E => ∃ (a : Addr) (ns : List Int) (h : Int), vs = [.ref a, .int h] ∧ Sq K H a (ns.map V.int) ∧
  (h ∉ ns → Rsd H E c.NoPerson "height" (.int h)) ∧ (h ∈ ns → Q .non H)
theorem ok_chk (F : Fun K "check_person" "check_person" S_check_person f fd) (B : Blt mg) (M : Mks P w K mg base c) : FnOk P w K mg base (L2.CX P w) 3 f fd P_check_person (spChk K c) := by
  refine F.okX sc_check_person (fun vs H Q E h => ?_) (fun cdv A outer s H vs Q E hr h => ?_)
  · obtain ⟨a, ns, h, rfl, _⟩ := h
    rfl
  obtain ⟨a, ns, h, rfl, ha, e1, q⟩ := h
  have hr2 : Room 2 _ := hr
  refine ⟨_, (pss_one (ps_if (pt_cmpR op_notIn_seq (pv 1) (pv 0) (by rfl)) (pss_one (ps_raise rfl (takes_of rfl rfl rfl rfl) (pmk_ex M.NoPerson hr2 rfl (pa_cons (pv 1) pa_nil)))) pss_nil)), ?_⟩
  refine ⟨_, rfl, _, rfl, a, _, rfl, ha, rfl, flat_ints ns, _, rfl, ?_⟩
  rw [in_ints]
  by_cases z : h ∈ ns
  · rw [decide_eq_true z]
    refine iteF ?_
    exact q z
  · rw [decide_eq_false z]
    refine iteT ?_
    exact ⟨_, rfl, _, rfl, rz_plain M.NoPerson.cl M.NoPerson.no (e1 z)⟩
theorem ok_wout (F : Fun K "without" "without" S_without f fd) {gC : Addr} {dC : FuncData} (GC : FnOk P w K mg base (L2.CX P w) 3 gC dC P_check_person (spChk K c)) (bC : Binds K dC P_check_person []) (kC : PySem.W.keepIn K (.ref gC) = true) (mC : mg "check_person" = some (.ref gC)) (B : Blt mg) (M : Mks P w K mg base c) : FnOk P w K mg base (L2.CX P w) 4 f fd P_without (spWout K c) := by
  refine F.okX sc_without (fun vs H Q E h => ?_) (fun cdv A outer s H vs Q E hr h => ?_)
  · obtain ⟨a, ns, h, rfl, _⟩ := h
    rfl
  obtain ⟨a, ns, h, rfl, ha, hn, e1, q⟩ := h
  have hr3 : Room 3 _ := hr
  have hl : (ns.map V.int).length = ns.length := List.length_map _
  have turn : ∀ (i : Nat), (ns.take (i + 1)).filter (· ≠ h) = (ns.take i).filter (· ≠ h) ++ (match ns[i]? with | some y => if y ≠ h then [y] else [] | none => []) := fun i => by
    rw [List.take_succ, List.filter_append]
    cases ns[i]? with
    | none => rfl
    | some y =>
      by_cases e : y = h
      · subst e
        simp
      · simp [e]
  rcases ha with ha | ha
  · refine ⟨_, (Evl.pss_cut (ps_expr (pe_call GC hr3 rfl mC kC bC .nil (passes_call (takes_of rfl rfl rfl rfl) fun _ _ _ _ h => h) (pa_cons (pv 0) (pa_cons (pv 1) pa_nil))))
    (pss_one (ps_ret (pe_callTy call_tupW rfl B.tuple (by decide +kernel) (pa_cons (pe_lc (own := [("other", 2)]) (g := gName 2) rfl sc_without.nd (pi_list (pv 0)) (blkOk_by (own := [("other", 2)]) (N := ["row", "height", "other"]) (sc := defScope S_without) (by decide +kernel)) (fun _ _ _ _ _ => pg_name (i := 2) sc_without.nd rfl (Or.inl rfl)) (fun _ _ _ _ _ => (pts_one (pt_cmpR op_ne (pv 2) (pv 1) (nomark _)))) (fun _ _ _ _ _ => (pv 2))) pa_nil))))), ?_⟩
    refine ⟨fun σ H' => σ = [some (.ref a), some (.int h), none] ∧ H' = H ∧ h ∈ ns, ?_, ?_⟩
    · exact ⟨_, rfl, _, rfl, a, ns, h, rfl, .inl ha, e1, fun z => ⟨rfl, rfl, z⟩⟩
    rintro σ H1 ⟨rfl, rfl, hin⟩
    refine ⟨_, rfl, a, rfl, ⟨_, ha⟩, fun D hD => ?_⟩
    refine lc_list (K := K) (xs := ns.map V.int) (fun i H' => H' D = some (.lst (((ns.take i).filter (· ≠ h)).map V.int)) ∧ Same H1 H') ⟨upd_same, same_new hD _⟩ (fun i H' _ z => z.2.seq ha) ?_ ?_
    · rintro i x H' hi ⟨z1, z2⟩
      rw [List.getElem?_map] at hi
      obtain ⟨y, hy, rfl⟩ := Option.map_eq_some_iff.mp hi
      have hi' := (List.getElem?_eq_some_iff.mp hy).1
      refine ⟨rfl, _, rfl, _, rfl, rfl, _, rfl, ?_⟩
      rw [turn i, hy]
      by_cases e : y = h
      · subst e
        refine iteNS rfl ?_
        simp only [ne_eq, not_true, if_false, List.append_nil]
        exact ⟨z1, z2⟩
      · rw [show (!decide (V.int y = V.int h)) = true by simp [e]]
        refine iteT ?_
        refine ⟨_, rfl, _, z1, ?_, ?_, ?_⟩
        · rw [List.length_map]
          have := List.length_filter_le (· ≠ h) (ns.take i)
          rw [List.length_take] at this
          exact small1000 (by omega)
        · rw [upd_same, List.map_append]
          simp [e]
        · exact fun b o hb => by
            rw [upd_ne (ne_of_none hb hD)]
            exact z2 _ _ hb
    · rintro H' ⟨z1, z2⟩
      rw [List.length_map, List.take_length] at z1
      refine ⟨D, _, rfl, .inl (SqL.of z1), fun p H'' s'' hp => ?_⟩
      exact q hin p H'' (z2.trans s'') hp
  · refine ⟨_, (Evl.pss_cut (ps_expr (pe_call GC hr3 rfl mC kC bC .nil (passes_call (takes_of rfl rfl rfl rfl) fun _ _ _ _ h => h) (pa_cons (pv 0) (pa_cons (pv 1) pa_nil))))
    (pss_one (ps_ret (pe_callTy call_tupW rfl B.tuple (by decide +kernel) (pa_cons (pe_lc (own := [("other", 2)]) (g := gName 2) rfl sc_without.nd (pi_tup (pv 0)) (blkOk_by (own := [("other", 2)]) (N := ["row", "height", "other"]) (sc := defScope S_without) (by decide +kernel)) (fun _ _ _ _ _ => pg_name (i := 2) sc_without.nd rfl (Or.inl rfl)) (fun _ _ _ _ _ => (pts_one (pt_cmpR op_ne (pv 2) (pv 1) (nomark _)))) (fun _ _ _ _ _ => (pv 2))) pa_nil))))), ?_⟩
    refine ⟨fun σ H' => σ = [some (.ref a), some (.int h), none] ∧ H' = H ∧ h ∈ ns, ?_, ?_⟩
    · exact ⟨_, rfl, _, rfl, a, ns, h, rfl, .inr ha, e1, fun z => ⟨rfl, rfl, z⟩⟩
    rintro σ H1 ⟨rfl, rfl, hin⟩
    refine ⟨_, rfl, a, rfl, ⟨_, ha⟩, fun D hD => ?_⟩
    refine lc_tup (K := K) (xs := ns.map V.int) (fun i H' => H' D = some (.lst (((ns.take i).filter (· ≠ h)).map V.int)) ∧ Same H1 H') ⟨upd_same, same_new hD _⟩ (fun i H' _ z => seqT z.2 ha) ?_ ?_
    · rintro i x H' hi ⟨z1, z2⟩
      rw [List.getElem?_map] at hi
      obtain ⟨y, hy, rfl⟩ := Option.map_eq_some_iff.mp hi
      have hi' := (List.getElem?_eq_some_iff.mp hy).1
      refine ⟨rfl, _, rfl, _, rfl, rfl, _, rfl, ?_⟩
      rw [turn i, hy]
      by_cases e : y = h
      · subst e
        refine iteNS rfl ?_
        simp only [ne_eq, not_true, if_false, List.append_nil]
        exact ⟨z1, z2⟩
      · rw [show (!decide (V.int y = V.int h)) = true by simp [e]]
        refine iteT ?_
        refine ⟨_, rfl, _, z1, ?_, ?_, ?_⟩
        · rw [List.length_map]
          have := List.length_filter_le (· ≠ h) (ns.take i)
          rw [List.length_take] at this
          exact small1000 (by omega)
        · rw [upd_same, List.map_append]
          simp [e]
        · exact fun b o hb => by
            rw [upd_ne (ne_of_none hb hD)]
            exact z2 _ _ hb
    · rintro H' ⟨z1, z2⟩
      rw [List.length_map, List.take_length] at z1
      refine ⟨D, _, rfl, .inl (SqL.of z1), fun p H'' s'' hp => ?_⟩
      exact q hin p H'' (z2.trans s'') hp
end
end Ov

set_option Elab.async false
set_option linter.all false
set_option maxRecDepth 100000
set_option maxHeartbeats 4000000
namespace Ov
open PySem L2
theorem vals_getD : ∀ {zs : List V} {ws : List Value}, Vals zs ws → ∀ i : Nat, RelV (zs.getD i .non) (ws.getD i .none)
  | _, _, .nil, i => by simp; rfl
  | _, _, .cons r t, 0 => r
  | _, _, .cons r t, i + 1 => by
    have := vals_getD t i
    simpa using this
theorem vals_perm {zs : List V} {ws : List Value} (r : Vals zs ws) : ∀ π : List Nat, Vals (π.map fun i => zs.getD i .non) (π.map fun i => ws.getD i .none)
  | [] => .nil
  | i :: q => .cons (vals_getD r i) (vals_perm r q)
theorem kbn_perm {K : PySem.W.Frag} {x qual : Str} {st : Stmt} {f : Addr} {fd : FuncData} {ps : List Str} (F : Fun K x qual st f fd) (ks : List Str) (π : List Nat)
    (h : ∀ (kV doc pm : Value) (an : Option Addr) (cdv ct : Value) (ws : List Value), ws.length = ks.length → bindArgs (PySem.W.fnOf x qual (defArgs st) (defBody st) (defScope st) .none kV doc pm an cdv ct) ⟨[], ks.zip ws⟩ = pure (ps.zip (π.map fun i => ws.getD i .none))) :
    KBn K fd ps 0 ks (fun _ ws => π.map fun i => ws.getD i .none) (fun _ zs => π.map fun i => zs.getD i .non) := by
  obtain ⟨oc, od, kV, doc, pm, an, cdv, ct, osl, rfl, lk, hcd⟩ := F.ex
  refine ⟨fun s us ws _ l1 l2 => ?_, fun _ r2 => vals_perm r2 π⟩
  cases us with
  | nil => exact .of_eq (h kV doc pm an cdv ct ws l2)
  | cons _ _ => cases l1
/-! what is due: a row, or an error by its name and its number -/
inductive Res where
  | err (n : Str) (i : Int)
  | row (ns : List Int)
def IsRes (K : PySem.W.Frag) (H : Hp) (v : V) : Res → Prop
  | .err n i => ∃ p, v = .ref p ∧ SqT K H p [.str n, .int i]
  | .row ns => ∃ p, v = .ref p ∧ SqT K H p (ns.map V.int) ∧ ns.length ≤ 999
theorem IsRes.same {K : PySem.W.Frag} {H H' : Hp} {v : V} {r : Res} (h : IsRes K H v r) (s : Same H H') : IsRes K H' v r := by
  cases r with
  | err n i =>
    obtain ⟨p, e, h⟩ := h
    exact ⟨p, e, seqT s h⟩
  | row ns =>
    obtain ⟨p, e, h, l⟩ := h
    exact ⟨p, e, seqT s h, l⟩
theorem res_sm {K : PySem.W.Frag} {H : Hp} {u v : V} {r : Res} (h1 : IsRes K H u r) (h2 : IsRes K H v r) : Sm K 2 H u v := by
  cases r with
  | err n i =>
    obtain ⟨p, rfl, h1⟩ := h1
    obtain ⟨q, rfl, h2⟩ := h2
    refine .inr ⟨p, q, _, _, rfl, rfl, .inr ⟨h1, h2⟩, rfl, by show 2 ≤ 1000; decide, fun j x y hx hy => ?_⟩
    rw [hx] at hy
    cases hy
    have hj : j < 2 := (List.getElem?_eq_some_iff.mp hx).1
    match j, hj with
    | 0, _ =>
      cases hx
      exact .inl ⟨rfl, rfl⟩
    | 1, _ =>
      cases hx
      exact .inl ⟨rfl, rfl⟩
  | row ns =>
    obtain ⟨p, rfl, h1, l⟩ := h1
    obtain ⟨q, rfl, h2, _⟩ := h2
    refine .inr ⟨p, q, _, _, rfl, rfl, .inr ⟨h1, h2⟩, rfl, by rw [List.length_map]; omega, fun j x y hx hy => ?_⟩
    rw [hx] at hy
    cases hy
    rw [List.getElem?_map] at hx
    obtain ⟨z, _, rfl⟩ := Option.map_eq_some_iff.mp hx
    exact .inl ⟨rfl, rfl⟩
def resOf (ns : List Int) (spot : Option Int) (soul : Int) : Res := match spot with
  | none => if soul ∈ ns then .row (ns.filter (· ≠ soul)) else .err "NoPerson" soul
  | some pl => if 0 ≤ pl ∧ pl ≤ ns.length then (if soul ∈ ns then .err "Known" soul else .row (withOf ns pl soul)) else .err "NoPlace" pl
def optV : Option Int → V
  | none => .non
  | some i => .int i
def Er (c : Ad) (C : Addr) (f nm : Str) : Prop := (C = c.Known ∧ f = "height" ∧ nm = "Known") ∨ (C = c.NoPerson ∧ f = "height" ∧ nm = "NoPerson") ∨ (C = c.NoPlace ∧ f = "place" ∧ nm = "NoPlace")
def tE : Value → Value → Bool
  | .ref a, .ref b => decide (a = b)
  | _, _ => false
/-- told and due -/
def spTell (K : PySem.W.Frag) (tup : Bool) : Sp := fun vs H Q _ => ∃ (a : Addr) (ns : List Int) (spot : Option Int) (soul : Int), vs = [.ref a, optV spot, .int soul] ∧ (if tup then SqT K H a (ns.map V.int) else Sq K H a (ns.map V.int)) ∧ ns.length ≤ 900 ∧ ∀ v H', Same H H' → IsRes K H' v (resOf ns spot soul) → Q v H'
section
variable {P : Program} {w : World} {K : PySem.W.Frag} {mg : Str → Option Value} {base : Heap} {f : Addr} {fd : FuncData} {c : Ad}
theorem ok_told (F : Fun K "_law_told" "_law_told" S_told f fd) {gW gP : Addr} {dW dP : FuncData} (GW : FnOk P w K mg base (L2.CX P w) 4 gW dW P_without (spWout K c)) (kW : PySem.W.keepIn K (.ref gW) = true) (mW : mg "without" = some (.ref gW)) (bW : KBn K dW P_without 0 ["height", "row"] (fun _ ws => [1, 0].map fun i => ws.getD i .none) (fun _ zs => [1, 0].map fun i => zs.getD i .non))
    (GP : FnOk P w K mg base (L2.CX P w) 3 gP dP P_with_person (spWith K c)) (kP : PySem.W.keepIn K (.ref gP) = true) (mP : mg "with_person" = some (.ref gP)) (bP : KBn K dP P_with_person 0 ["height", "place", "row"] (fun _ ws => [2, 1, 0].map fun i => ws.getD i .none) (fun _ zs => [2, 1, 0].map fun i => zs.getD i .non))
    (B : Blt mg) (M : Mks P w K mg base c) (nd : [c.Known, c.NoNumber, c.NoPerson, c.NoPlace].Nodup) : FnOk P w K mg base CX0 5 f fd P_told (spTell K false) := by
  refine F.ok sc_told (fun vs H Q E h => ?_) (fun cdv A outer s H vs Q E hr h => ?_)
  · obtain ⟨a, ns, spot, soul, rfl, _⟩ := h
    rfl
  obtain ⟨a, ns, spot, soul, rfl, ha, hn, q⟩ := h
  refine ⟨_, (Evl.pss_cut (ps_asg (pe_tup (pa_cons pe_non (pa_cons pe_non pa_nil))) (pg_tup rfl (pgs_cons (pg_name (i := 3) sc_told.nd rfl (Or.inl rfl)) (pgs_cons (pg_name (i := 4) sc_told.nd rfl (Or.inl rfl)) pgs_nil))))
    (Evl.pss_cut (ps_keep (t := tE) (i := 5) rfl rfl rfl sc_told.nd rfl rfl (.cons rfl (by decide) M.Known.mgC rfl (.cons rfl (by decide) M.NoNumber.mgC rfl (.cons rfl (by decide) M.NoPerson.mgC rfl (.cons rfl (by decide) M.NoPlace.mgC rfl Nms.nil)))) (smallB rfl)
      (fun W pn xe tk _ => (pss_one (ps_set (i := 3) sc_told.nd rfl (Or.inl rfl) (pe_ifExp (pt_cmpR op_isN (pv 1) pe_non (nomark _)) (pe_callKS GW hr rfl mW kW bW (fun σ => passAt tk σ) (pk_cons (pv 2) (pk_cons (pv 0) pk_nil))) (pe_callKS GP (hr.mono (by decide)) rfl mP kP bP (fun σ => passAt tk σ) (pk_cons (pv 2) (pk_cons (pv 1) (pk_cons (pv 0) pk_nil))))))))
      (fun a oe cls d pn hz hf => (pss_one (ps_set (i := 4) sc_told.nd rfl (Or.inl rfl) (pv 5)))))
    (Evl.pss_cut (ps_if (pt_cmpR op_isN (pv 4) pe_non (nomark _)) (pss_one (ps_ret (pv 3))) pss_nil)
    (Evl.pss_cut (ps_set (i := 6) sc_told.nd rfl (Or.inl rfl) (pe_lst (pa_cons (pe_callB call_isC rfl B.isinstance (by decide +kernel) (pa_cons (pv 4) (pa_cons (pe_glob (v := .ref c.Known) rfl M.Known.mgC rfl) pa_nil))) (pa_cons (pe_callB call_isC rfl B.isinstance (by decide +kernel) (pa_cons (pv 4) (pa_cons (pe_glob (v := .ref c.NoNumber) rfl M.NoNumber.mgC rfl) pa_nil))) (pa_cons (pe_callB call_isC rfl B.isinstance (by decide +kernel) (pa_cons (pv 4) (pa_cons (pe_glob (v := .ref c.NoPerson) rfl M.NoPerson.mgC rfl) pa_nil))) pa_nil)))))
    (Evl.pss_cut (ps_if (PW.pt (pw_or (pt_cmpR op_ne (pe_bm PySem.F.plainAttrs_list PySem.F.slot_list_count PySem.F.type_list_count mt_cntF (pe_op op_cat (pv 6) (pe_lst (pa_cons (pe_callB call_isC rfl B.isinstance (by decide +kernel) (pa_cons (pv 4) (pa_cons (pe_glob (v := .ref c.NoPlace) rfl M.NoPlace.mgC rfl) pa_nil))) pa_nil))) (pa_cons pe_bl pa_nil)) pe_int (nomark _)) (pw_or1 (pt_val (pe_ix ix_list (pv 6) pe_int (fun _ _ => rfl)))))) (pss_one (ps_ret pe_str)) pss_nil)
    (Evl.pss_cut (ps_if (pt_val (pe_ix ix_list (pv 6) pe_int (fun _ _ => rfl))) (pss_one (ps_ret (pe_ifExp (pt_val (pe_callB call_isC rfl B.isinstance (by decide +kernel) (pa_cons (pv 4) (pa_cons (pe_bltn (v := .ty "ValueError") rfl B.ValueError (by decide +kernel) rfl) pa_nil)))) (pe_tup (pa_cons pe_str (pa_cons (pe_caf (pv 4)) pa_nil))) pe_str))) pss_nil)
    (Evl.pss_cut (ps_if (pt_not (pt_val (pe_callB call_isC rfl B.isinstance (by decide +kernel) (pa_cons (pv 4) (pa_cons (pe_bltn (v := .ty "LookupError") rfl B.LookupError (by decide +kernel) rfl) pa_nil))))) (pss_one (ps_ret pe_str)) pss_nil)
    (pss_one (ps_ret (pe_ifExp (pt_val (pe_ix ix_list (pv 6) pe_int (fun _ _ => rfl))) (pe_tup (pa_cons pe_str (pa_cons (pe_caf (pv 4)) pa_nil))) (pe_tup (pa_cons pe_str (pa_cons (pe_caf (pv 4)) pa_nil))))))))))))), ?_⟩
  have ha : Sq K H a (ns.map V.int) := ha
  have ex : ∀ {C : Addr} {k : Nat}, Cl K C k → ∀ x ∈ [Value.ref c.Known, .ref c.NoNumber, .ref c.NoPerson, .ref c.NoPlace], PySem.W.exmOne K (.ref C) x = some (tE (.ref C) x) := by
    intro C k x y hy
    simp only [List.mem_cons, List.not_mem_nil, or_false] at hy
    rcases hy with rfl | rfl | rfl | rfl
    · exact x.exm M.Known.cl
    · exact x.exm M.NoNumber.cl
    · exact x.exm M.NoPerson.cl
    · exact x.exm M.NoPlace.cl
  refine ⟨fun σ H' => σ = [some (.ref a), some (optV spot), some (.int soul), some .non, some .non, none, none] ∧ Same H H', ?_, ?_⟩
  · refine ⟨smallB rfl, fun t ht => ?_⟩
    generalize eNew : upd _ t _ = H1
    obtain ⟨s1, u1⟩ := fresh_of eNew ht
    clear eNew
    exact ⟨t, _, rfl, SqT.of u1, rfl, _, _, rfl, _, _, rfl, rfl, rfl, s1⟩
  rintro σ H1 ⟨rfl, s1⟩
  refine ⟨fun σ H' => Same H H' ∧ ((∃ (p : Addr) (ms : List Int), σ = [some (.ref a), some (optV spot), some (.int soul), some (.ref p), some .non, none, none] ∧ resOf ns spot soul = .row ms ∧ ms.length ≤ 999 ∧ SqT K H' p (ms.map V.int)) ∨
      (∃ (e C : Addr) (f nm : Str) (i : Int) (x3 : Option V), σ = [some (.ref a), some (optV spot), some (.int soul), x3, some (.ref e), none, none] ∧ Er c C f nm ∧ resOf ns spot soul = .err nm i ∧ Cau K H' e C [(f, .int i)])), ?_, ?_⟩
  · cases spot with
    | none =>
      refine ⟨_, rfl, rfl, _, rfl, ?_⟩
      refine iteC (decide_eq_true rfl) ?_
      refine ⟨_, rfl, _, rfl, rfl, a, ns, soul, rfl, ha.same s1, by omega, fun z d H' s' ndd hd => ?_, fun z p H' s' hp => ?_⟩
      · refine ⟨c.NoPerson, rfl, ex M.NoPerson.cl, by simp [tE], fun e ne => ⟨_, rfl, (s1.trans s').trans (same_new ne _), .inr ⟨e, c.NoPerson, _, _, soul, _, rfl, .inr (.inl ⟨rfl, rfl, rfl⟩), if_neg z, _, d, M.NoPerson.cl, upd_same, (same_new ne _) _ _ hd⟩⟩⟩
      · exact ⟨s1.trans s', .inl ⟨p, _, rfl, if_pos z, by have := List.length_filter_le (· ≠ soul) ns; omega, hp⟩⟩
    | some pl =>
      refine ⟨_, rfl, rfl, _, rfl, ?_⟩
      refine iteD (decide_eq_false (fun z => nomatch z)) ?_
      refine ⟨_, rfl, _, rfl, _, rfl, rfl, a, ns, pl, soul, rfl, ha.same s1, hn, fun z d H' s' ndd hd => ?_, fun z1 z2 z d H' s' ndd hd => ?_, fun z1 z2 z p H' s' hp => ?_⟩
      · refine ⟨c.NoPlace, rfl, ex M.NoPlace.cl, by simp [tE], fun e ne => ⟨_, rfl, (s1.trans s').trans (same_new ne _), .inr ⟨e, c.NoPlace, _, _, pl, _, rfl, .inr (.inr ⟨rfl, rfl, rfl⟩), if_neg z, _, d, M.NoPlace.cl, upd_same, (same_new ne _) _ _ hd⟩⟩⟩
      · refine ⟨c.Known, rfl, ex M.Known.cl, by simp [tE], fun e ne => ⟨_, rfl, (s1.trans s').trans (same_new ne _), .inr ⟨e, c.Known, _, _, soul, _, rfl, .inl ⟨rfl, rfl, rfl⟩, (if_pos ⟨z1, z2⟩).trans (if_pos z), _, d, M.Known.cl, upd_same, (same_new ne _) _ _ hd⟩⟩⟩
      · refine ⟨s1.trans s', .inl ⟨p, _, rfl, (if_pos ⟨z1, z2⟩).trans (if_neg z), ?_, hp⟩⟩
        unfold withOf
        rw [List.length_append, List.length_append, List.length_take, List.length_drop, List.length_singleton]
        omega
  rintro σ H2 ⟨s2, hcase⟩
  refine ⟨fun σ H' => H' = H2 ∧ (∃ (e C : Addr) (f nm : Str) (i : Int) (x3 : Option V), σ = [some (.ref a), some (optV spot), some (.int soul), x3, some (.ref e), none, none] ∧ Er c C f nm ∧ resOf ns spot soul = .err nm i ∧ Cau K H' e C [(f, .int i)]), ?_, ?_⟩
  · rcases hcase with ⟨p, ms, rfl, hres, hlen, hp⟩ | ⟨e, C, f', nm, i, x3, rfl, er, hres, cau⟩
    · refine ⟨_, rfl, rfl, _, rfl, ?_⟩
      refine iteC (decide_eq_true rfl) ?_
      refine ⟨_, rfl, q _ _ s2 ?_⟩
      rw [hres]
      exact ⟨p, rfl, hp, hlen⟩
    · refine ⟨_, rfl, rfl, _, rfl, ?_⟩
      refine iteD (decide_eq_false (fun z => nomatch z)) ?_
      exact ⟨rfl, e, C, f', nm, i, x3, rfl, er, hres, cau⟩
  rintro σ H3 ⟨rfl, e, C, f', nm, i, x3, rfl, er, hres, cau⟩
  have dn : c.Known ≠ c.NoNumber ∧ c.Known ≠ c.NoPerson ∧ c.Known ≠ c.NoPlace ∧ c.NoNumber ≠ c.NoPerson ∧ c.NoNumber ≠ c.NoPlace ∧ c.NoPerson ≠ c.NoPlace := by
    simp only [List.nodup_cons, List.mem_cons, List.not_mem_nil, or_false, not_or] at nd
    exact ⟨nd.1.1, nd.1.2.1, nd.1.2.2, nd.2.1.1, nd.2.1.2, nd.2.2.1⟩
  obtain ⟨d12, d13, d14, d23, d24, d34⟩ := dn
  rcases er with ⟨rfl, rfl, rfl⟩ | ⟨rfl, rfl, rfl⟩ | ⟨rfl, rfl, rfl⟩
  · have qKnown : PySem.W.kitOne K (.ref c.Known) (.ref c.Known) = some true := (M.Known.cl.own M.Known.cl).trans (congrArg some (decide_eq_true rfl))
    have qNoNumber : PySem.W.kitOne K (.ref c.Known) (.ref c.NoNumber) = some false := (M.Known.cl.own M.NoNumber.cl).trans (congrArg some (decide_eq_false (by first | assumption | exact Ne.symm (by assumption))))
    have qNoPerson : PySem.W.kitOne K (.ref c.Known) (.ref c.NoPerson) = some false := (M.Known.cl.own M.NoPerson.cl).trans (congrArg some (decide_eq_false (by first | assumption | exact Ne.symm (by assumption))))
    have qNoPlace : PySem.W.kitOne K (.ref c.Known) (.ref c.NoPlace) = some false := (M.Known.cl.own M.NoPlace.cl).trans (congrArg some (decide_eq_false (by first | assumption | exact Ne.symm (by assumption))))
    obtain ⟨t0, t1, t2, t3, _⟩ := tl_at (k := 0) (by decide)
    have qV : PySem.W.kitOne K (.ref c.Known) (.type "ValueError") = some true := M.Known.cl.bas "ValueError" _ (by decide +kernel) t0
    have qL : PySem.W.kitOne K (.ref c.Known) (.type "LookupError") = some false := M.Known.cl.bas "LookupError" _ (by decide +kernel) t1
    refine ⟨fun σ H' => ∃ l, σ = [some (.ref a), some (optV spot), some (.int soul), x3, some (.ref e), none, some (.ref l)] ∧ Same H3 H' ∧ H' l = some (.lst [.bl true, .bl false, .bl false]), ?_, ?_⟩
    · refine ⟨_, rfl, e, _, _, _, _, true, rfl, .own _, cau, qKnown, _, rfl, e, _, _, _, _, false, rfl, .own _, cau, qNoNumber, _, rfl, e, _, _, _, _, false, rfl, .own _, cau, qNoPerson, smallB rfl, fun l hl => ?_⟩
      generalize eNew : upd _ l _ = H4
      obtain ⟨s4, u4⟩ := fresh_of eNew hl
      clear eNew
      exact ⟨l, rfl, s4, u4⟩
    rintro σ H4 ⟨l, rfl, s4, u4⟩
    refine ⟨fun σ H' => σ = [some (.ref a), some (optV spot), some (.int soul), x3, some (.ref e), none, some (.ref l)] ∧ Same H4 H', ?_, ?_⟩
    · refine ⟨_, rfl, _, rfl, e, _, _, _, _, false, rfl, .own _, cau.same s4, qNoPlace, smallB rfl, fun l2 hl2 => ?_⟩
      generalize eNew : upd _ l2 _ = H5
      obtain ⟨s5, u5⟩ := fresh_of eNew hl2
      clear eNew
      refine ⟨l, l2, _, _, rfl, rfl, s5 _ _ u4, u5, smallB rfl, fun l3 hl3 => ?_⟩
      generalize eNew : upd _ l3 _ = H6
      obtain ⟨s6, u6⟩ := fresh_of eNew hl3
      clear eNew
      refine ⟨.inl ⟨rfl, _, SqL.of u6⟩, l3, _, _, rfl, rfl, SqL.of u6, rfl, rfl, rfl, _, rfl, ?_⟩
      refine iteNS rfl ?_
      refine ⟨_, rfl, l, _, _, _, rfl, rfl, SqL.of (s6 _ _ (s5 _ _ u4)), atI_nat (j := 1) rfl, _, rfl, ?_⟩
      refine iteF ?_
      exact ⟨rfl, s5.trans s6⟩
    rintro σ H5 ⟨rfl, s5⟩
    have u5 := s5 _ _ u4
    have cau5 := (cau.same s4).same s5
    have w5 := (s2.trans s4).trans s5
    refine ⟨fun _ _ => False, ?_, fun _ _ z => z.elim⟩
    refine ⟨_, rfl, l, _, _, _, rfl, rfl, SqL.of u5, atI_nat (j := 0) rfl, _, rfl, ?_⟩
    refine iteT ?_
    refine ⟨_, rfl, e, _, _, _, _, true, rfl, .ty _, cau5, qV, _, rfl, ?_⟩
    refine iteT ?_
    refine ⟨_, rfl, e, _, _, _, rfl, cau5, M.Known.no, lookup_one _ _, smallB rfl, fun t ht => ?_⟩
    generalize eNew : upd _ t _ = H6
    obtain ⟨s6, u6⟩ := fresh_of eNew ht
    clear eNew
    refine q _ _ (w5.trans s6) ?_
    rw [hres]
    exact ⟨t, rfl, SqT.of u6⟩
  · have qKnown : PySem.W.kitOne K (.ref c.NoPerson) (.ref c.Known) = some false := (M.NoPerson.cl.own M.Known.cl).trans (congrArg some (decide_eq_false (by first | assumption | exact Ne.symm (by assumption))))
    have qNoNumber : PySem.W.kitOne K (.ref c.NoPerson) (.ref c.NoNumber) = some false := (M.NoPerson.cl.own M.NoNumber.cl).trans (congrArg some (decide_eq_false (by first | assumption | exact Ne.symm (by assumption))))
    have qNoPerson : PySem.W.kitOne K (.ref c.NoPerson) (.ref c.NoPerson) = some true := (M.NoPerson.cl.own M.NoPerson.cl).trans (congrArg some (decide_eq_true rfl))
    have qNoPlace : PySem.W.kitOne K (.ref c.NoPerson) (.ref c.NoPlace) = some false := (M.NoPerson.cl.own M.NoPlace.cl).trans (congrArg some (decide_eq_false (by first | assumption | exact Ne.symm (by assumption))))
    obtain ⟨t0, t1, t2, t3, _⟩ := tl_at (k := 1) (by decide)
    have qV : PySem.W.kitOne K (.ref c.NoPerson) (.type "ValueError") = some false := M.NoPerson.cl.bas "ValueError" _ (by decide +kernel) t0
    have qL : PySem.W.kitOne K (.ref c.NoPerson) (.type "LookupError") = some true := M.NoPerson.cl.bas "LookupError" _ (by decide +kernel) t1
    refine ⟨fun σ H' => ∃ l, σ = [some (.ref a), some (optV spot), some (.int soul), x3, some (.ref e), none, some (.ref l)] ∧ Same H3 H' ∧ H' l = some (.lst [.bl false, .bl false, .bl true]), ?_, ?_⟩
    · refine ⟨_, rfl, e, _, _, _, _, false, rfl, .own _, cau, qKnown, _, rfl, e, _, _, _, _, false, rfl, .own _, cau, qNoNumber, _, rfl, e, _, _, _, _, true, rfl, .own _, cau, qNoPerson, smallB rfl, fun l hl => ?_⟩
      generalize eNew : upd _ l _ = H4
      obtain ⟨s4, u4⟩ := fresh_of eNew hl
      clear eNew
      exact ⟨l, rfl, s4, u4⟩
    rintro σ H4 ⟨l, rfl, s4, u4⟩
    refine ⟨fun σ H' => σ = [some (.ref a), some (optV spot), some (.int soul), x3, some (.ref e), none, some (.ref l)] ∧ Same H4 H', ?_, ?_⟩
    · refine ⟨_, rfl, _, rfl, e, _, _, _, _, false, rfl, .own _, cau.same s4, qNoPlace, smallB rfl, fun l2 hl2 => ?_⟩
      generalize eNew : upd _ l2 _ = H5
      obtain ⟨s5, u5⟩ := fresh_of eNew hl2
      clear eNew
      refine ⟨l, l2, _, _, rfl, rfl, s5 _ _ u4, u5, smallB rfl, fun l3 hl3 => ?_⟩
      generalize eNew : upd _ l3 _ = H6
      obtain ⟨s6, u6⟩ := fresh_of eNew hl3
      clear eNew
      refine ⟨.inl ⟨rfl, _, SqL.of u6⟩, l3, _, _, rfl, rfl, SqL.of u6, rfl, rfl, rfl, _, rfl, ?_⟩
      refine iteNS rfl ?_
      refine ⟨_, rfl, l, _, _, _, rfl, rfl, SqL.of (s6 _ _ (s5 _ _ u4)), atI_nat (j := 1) rfl, _, rfl, ?_⟩
      refine iteF ?_
      exact ⟨rfl, s5.trans s6⟩
    rintro σ H5 ⟨rfl, s5⟩
    have u5 := s5 _ _ u4
    have cau5 := (cau.same s4).same s5
    have w5 := (s2.trans s4).trans s5
    refine ⟨fun σ H' => σ = [some (.ref a), some (optV spot), some (.int soul), x3, some (.ref e), none, some (.ref l)] ∧ H' = H5, ?_, ?_⟩
    · refine ⟨_, rfl, l, _, _, _, rfl, rfl, SqL.of u5, atI_nat (j := 0) rfl, _, rfl, ?_⟩
      refine iteF ?_
      exact ⟨rfl, rfl⟩
    rintro σ H5' ⟨rfl, rfl⟩
    refine ⟨fun σ H' => σ = [some (.ref a), some (optV spot), some (.int soul), x3, some (.ref e), none, some (.ref l)] ∧ H' = H5', ?_, ?_⟩
    · refine ⟨_, rfl, e, _, _, _, _, true, rfl, .ty _, cau5, qL, _, rfl, ?_⟩
      refine iteF ?_
      exact ⟨rfl, rfl⟩
    rintro σ H5'' ⟨rfl, rfl⟩
    refine ⟨_, rfl, l, _, _, _, rfl, rfl, SqL.of u5, atI_nat (j := 2) rfl, _, rfl, ?_⟩
    refine iteT ?_
    refine ⟨_, rfl, e, _, _, _, rfl, cau5, M.NoPerson.no, lookup_one _ _, smallB rfl, fun t ht => ?_⟩
    generalize eNew : upd _ t _ = H6
    obtain ⟨s6, u6⟩ := fresh_of eNew ht
    clear eNew
    refine q _ _ (w5.trans s6) ?_
    rw [hres]
    exact ⟨t, rfl, SqT.of u6⟩
  · have qKnown : PySem.W.kitOne K (.ref c.NoPlace) (.ref c.Known) = some false := (M.NoPlace.cl.own M.Known.cl).trans (congrArg some (decide_eq_false (by first | assumption | exact Ne.symm (by assumption))))
    have qNoNumber : PySem.W.kitOne K (.ref c.NoPlace) (.ref c.NoNumber) = some false := (M.NoPlace.cl.own M.NoNumber.cl).trans (congrArg some (decide_eq_false (by first | assumption | exact Ne.symm (by assumption))))
    have qNoPerson : PySem.W.kitOne K (.ref c.NoPlace) (.ref c.NoPerson) = some false := (M.NoPlace.cl.own M.NoPerson.cl).trans (congrArg some (decide_eq_false (by first | assumption | exact Ne.symm (by assumption))))
    have qNoPlace : PySem.W.kitOne K (.ref c.NoPlace) (.ref c.NoPlace) = some true := (M.NoPlace.cl.own M.NoPlace.cl).trans (congrArg some (decide_eq_true rfl))
    obtain ⟨t0, t1, t2, t3, _⟩ := tl_at (k := 1) (by decide)
    have qV : PySem.W.kitOne K (.ref c.NoPlace) (.type "ValueError") = some false := M.NoPlace.cl.bas "ValueError" _ (by decide +kernel) t0
    have qL : PySem.W.kitOne K (.ref c.NoPlace) (.type "LookupError") = some true := M.NoPlace.cl.bas "LookupError" _ (by decide +kernel) t1
    refine ⟨fun σ H' => ∃ l, σ = [some (.ref a), some (optV spot), some (.int soul), x3, some (.ref e), none, some (.ref l)] ∧ Same H3 H' ∧ H' l = some (.lst [.bl false, .bl false, .bl false]), ?_, ?_⟩
    · refine ⟨_, rfl, e, _, _, _, _, false, rfl, .own _, cau, qKnown, _, rfl, e, _, _, _, _, false, rfl, .own _, cau, qNoNumber, _, rfl, e, _, _, _, _, false, rfl, .own _, cau, qNoPerson, smallB rfl, fun l hl => ?_⟩
      generalize eNew : upd _ l _ = H4
      obtain ⟨s4, u4⟩ := fresh_of eNew hl
      clear eNew
      exact ⟨l, rfl, s4, u4⟩
    rintro σ H4 ⟨l, rfl, s4, u4⟩
    refine ⟨fun σ H' => σ = [some (.ref a), some (optV spot), some (.int soul), x3, some (.ref e), none, some (.ref l)] ∧ Same H4 H', ?_, ?_⟩
    · refine ⟨_, rfl, _, rfl, e, _, _, _, _, true, rfl, .own _, cau.same s4, qNoPlace, smallB rfl, fun l2 hl2 => ?_⟩
      generalize eNew : upd _ l2 _ = H5
      obtain ⟨s5, u5⟩ := fresh_of eNew hl2
      clear eNew
      refine ⟨l, l2, _, _, rfl, rfl, s5 _ _ u4, u5, smallB rfl, fun l3 hl3 => ?_⟩
      generalize eNew : upd _ l3 _ = H6
      obtain ⟨s6, u6⟩ := fresh_of eNew hl3
      clear eNew
      refine ⟨.inl ⟨rfl, _, SqL.of u6⟩, l3, _, _, rfl, rfl, SqL.of u6, rfl, rfl, rfl, _, rfl, ?_⟩
      refine iteNS rfl ?_
      refine ⟨_, rfl, l, _, _, _, rfl, rfl, SqL.of (s6 _ _ (s5 _ _ u4)), atI_nat (j := 1) rfl, _, rfl, ?_⟩
      refine iteF ?_
      exact ⟨rfl, s5.trans s6⟩
    rintro σ H5 ⟨rfl, s5⟩
    have u5 := s5 _ _ u4
    have cau5 := (cau.same s4).same s5
    have w5 := (s2.trans s4).trans s5
    refine ⟨fun σ H' => σ = [some (.ref a), some (optV spot), some (.int soul), x3, some (.ref e), none, some (.ref l)] ∧ H' = H5, ?_, ?_⟩
    · refine ⟨_, rfl, l, _, _, _, rfl, rfl, SqL.of u5, atI_nat (j := 0) rfl, _, rfl, ?_⟩
      refine iteF ?_
      exact ⟨rfl, rfl⟩
    rintro σ H5' ⟨rfl, rfl⟩
    refine ⟨fun σ H' => σ = [some (.ref a), some (optV spot), some (.int soul), x3, some (.ref e), none, some (.ref l)] ∧ H' = H5', ?_, ?_⟩
    · refine ⟨_, rfl, e, _, _, _, _, true, rfl, .ty _, cau5, qL, _, rfl, ?_⟩
      refine iteF ?_
      exact ⟨rfl, rfl⟩
    rintro σ H5'' ⟨rfl, rfl⟩
    refine ⟨_, rfl, l, _, _, _, rfl, rfl, SqL.of u5, atI_nat (j := 2) rfl, _, rfl, ?_⟩
    refine iteF ?_
    refine ⟨_, rfl, e, _, _, _, rfl, cau5, M.NoPlace.no, lookup_one _ _, smallB rfl, fun t ht => ?_⟩
    generalize eNew : upd _ t _ = H6
    obtain ⟨s6, u6⟩ := fresh_of eNew ht
    clear eNew
    refine q _ _ (w5.trans s6) ?_
    rw [hres]
    exact ⟨t, rfl, SqT.of u6⟩
end
end Ov

set_option Elab.async false
set_option linter.all false
set_option maxRecDepth 100000
set_option maxHeartbeats 4000000
namespace Ov
open PySem L2
theorem passF {X : Cx} : Passes (L2.CX X.prog X.w) X L2.E0 := fun _ _ _ _ _ _ _ h => by
  obtain ⟨a, B, H', cls, d, _, _, _, _, _, _, _, z⟩ := h
  exact z.elim
section
variable {P : Program} {w : World} {K : PySem.W.Frag} {mg : Str → Option Value} {base : Heap} {f : Addr} {fd : FuncData} {c : Ad}
theorem ok_due (F : Fun K "_law_due" "_law_due" S_due f fd) (B : Blt mg) : FnOk P w K mg base CX0 1 f fd P_due (spTell K true) := by
  refine F.ok sc_due (fun vs H Q E h => ?_) (fun cdv A outer s H vs Q E hr h => ?_)
  · obtain ⟨a, ns, spot, soul, rfl, _⟩ := h
    rfl
  obtain ⟨a, ns, spot, soul, rfl, ha, hn, q⟩ := h
  have ha : SqT K H a (ns.map V.int) := ha
  have hl : (ns.map V.int).length = ns.length := List.length_map _
  refine ⟨_, (Evl.pss_cut (ps_if (pt_cmpR op_isN (pv 1) pe_non (nomark _)) (Evl.pss_cut (ps_if (pt_cmpR op_notIn_seq (pv 2) (pv 0) (by rfl)) (pss_one (ps_ret (pe_tup (pa_cons pe_str (pa_cons (pv 2) pa_nil))))) pss_nil)
      (pss_one (ps_ret (pe_callTy call_tupW rfl B.tuple (by decide +kernel) (pa_cons (pe_lc (own := [("_law_its", 3)]) (g := gName 3) rfl sc_due.nd (pi_tup (pv 0)) (blkOk_by (own := [("_law_its", 3)]) (N := ["_law_crowd_here", "_law_spot", "_law_soul", "_law_its"]) (sc := defScope S_due) (by decide +kernel)) (fun _ _ _ _ _ => pg_name (i := 3) sc_due.nd rfl (Or.inl rfl)) (fun _ _ _ _ _ => (pts_one (pt_cmpR op_ne (pv 3) (pv 2) (nomark _)))) (fun _ _ _ _ _ => (pv 3))) pa_nil))))) pss_nil)
    (Evl.pss_cut (ps_if (pt_not (pt_chain op_le op_le pe_int (pv 1) (pe_callB call_len_seq rfl B.len PySem.boot_len (pa_cons (pv 0) pa_nil)))) (pss_one (ps_ret (pe_tup (pa_cons pe_str (pa_cons (pv 1) pa_nil))))) pss_nil)
    (pss_one (ps_ret (pe_ifExp (pt_cmpR op_in_seq (pv 2) (pv 0) (by rfl)) (pe_tup (pa_cons pe_str (pa_cons (pv 2) pa_nil))) (pe_op op_catW (pe_op op_catW (pe_slice sl_cut (pv 0) po_none (po_some (pv 1))) (pe_tup (pa_cons (pv 2) pa_nil))) (pe_slice sl_cut (pv 0) (po_some (pv 1)) po_none))))))), ?_⟩
  cases spot with
  | none =>
    refine ⟨fun _ _ => False, ?_, fun _ _ z => z.elim⟩
    refine ⟨_, rfl, rfl, _, rfl, ?_⟩
    refine iteC (decide_eq_true rfl) ?_
    refine ⟨fun σ H' => σ = [some (.ref a), some .non, some (.int soul), none] ∧ H' = H ∧ soul ∈ ns, ?_, ?_⟩
    · refine ⟨_, rfl, _, rfl, a, _, rfl, .inr ha, rfl, flat_ints ns, _, rfl, ?_⟩
      rw [in_ints]
      by_cases z : soul ∈ ns
      · rw [decide_eq_true z]
        refine iteF ?_
        exact ⟨rfl, rfl, z⟩
      · rw [decide_eq_false z]
        refine iteT ?_
        refine ⟨_, rfl, smallB rfl, fun t ht => ?_⟩
        generalize eNew : upd _ t _ = H1
        obtain ⟨s1, u1⟩ := fresh_of eNew ht
        clear eNew
        refine q _ _ s1 ?_
        rw [show resOf ns none soul = .err "NoPerson" soul from if_neg z]
        exact ⟨t, rfl, SqT.of u1⟩
    rintro σ H1 ⟨rfl, rfl, hin⟩
    refine ⟨_, rfl, a, rfl, ⟨_, ha⟩, fun D hD => ?_⟩
    refine lc_tup (K := K) (xs := ns.map V.int) (fun i H' => H' D = some (.lst (((ns.take i).filter (· ≠ soul)).map V.int)) ∧ Same H1 H') ⟨upd_same, same_new hD _⟩ (fun i H' _ z => seqT z.2 ha) ?_ ?_
    · rintro i x H' hi ⟨z1, z2⟩
      rw [List.getElem?_map] at hi
      obtain ⟨y, hy, rfl⟩ := Option.map_eq_some_iff.mp hi
      have hi' := (List.getElem?_eq_some_iff.mp hy).1
      refine ⟨rfl, _, rfl, _, rfl, rfl, _, rfl, ?_⟩
      have turn : (ns.take (i + 1)).filter (· ≠ soul) = (ns.take i).filter (· ≠ soul) ++ (if y ≠ soul then [y] else []) := by
        rw [List.take_succ, List.filter_append, hy]
        by_cases e : y = soul
        · subst e
          simp
        · simp [e]
      rw [turn]
      by_cases e : y = soul
      · subst e
        refine iteNS rfl ?_
        simp only [ne_eq, not_true, if_false, List.append_nil]
        exact ⟨z1, z2⟩
      · rw [show (!decide (V.int y = V.int soul)) = true by simp [e]]
        refine iteT ?_
        refine ⟨_, rfl, _, z1, ?_, ?_, ?_⟩
        · rw [List.length_map]
          have := List.length_filter_le (· ≠ soul) (ns.take i)
          rw [List.length_take] at this
          exact small1000 (by omega)
        · rw [upd_same, List.map_append]
          simp [e]
        · exact fun b o hb => by
            rw [upd_ne (ne_of_none hb hD)]
            exact z2 _ _ hb
    · rintro H' ⟨z1, z2⟩
      rw [List.length_map, List.take_length] at z1
      refine ⟨D, _, rfl, .inl (SqL.of z1), fun p H'' s'' hp => ?_⟩
      refine q _ _ (z2.trans s'') ?_
      rw [show resOf ns none soul = .row (ns.filter (· ≠ soul)) from if_pos hin]
      exact ⟨p, rfl, hp, by have := List.length_filter_le (· ≠ soul) ns; omega⟩
  | some pl =>
    refine ⟨fun σ H' => σ = [some (.ref a), some (.int pl), some (.int soul), none] ∧ H' = H, ?_, ?_⟩
    · refine ⟨_, rfl, rfl, _, rfl, ?_⟩
      refine iteD (decide_eq_false (fun z => nomatch z)) ?_
      exact ⟨rfl, rfl⟩
    rintro σ H1 ⟨rfl, rfl⟩
    refine ⟨fun σ H' => σ = [some (.ref a), some (.int pl), some (.int soul), none] ∧ H' = H1 ∧ 0 ≤ pl ∧ pl ≤ ns.length, ?_, ?_⟩
    · have no : ¬ (0 ≤ pl ∧ pl ≤ ns.length) → ∃ v, [some (V.ref a), some (.int pl), some (.int soul), none][1]? = some (some v) ∧ ([V.str "NoPlace", v].length ≤ sizeLine ∧ ∀ p, H1 p = none → Q (.ref p) (upd H1 p (.tup [.str "NoPlace", v]))) := fun z => by
        refine ⟨_, rfl, smallB rfl, fun t ht => ?_⟩
        generalize eNew : upd _ t _ = H2
        obtain ⟨s2, u2⟩ := fresh_of eNew ht
        clear eNew
        refine q _ _ s2 ?_
        rw [show resOf ns (some pl) soul = .err "NoPlace" pl from if_neg z]
        exact ⟨t, rfl, SqT.of u2⟩
      refine ⟨_, rfl, _, _, rfl, rfl, _, rfl, ?_⟩
      refine ite2 (fun z => ?_) (fun z => ?_)
      · have z' : 0 ≤ pl := of_decide_eq_true z
        refine ⟨_, rfl, a, _, rfl, .inr ha, _, _, rfl, rfl, _, rfl, ?_⟩
        rw [hl]
        by_cases y : pl ≤ (ns.length : Int)
        · rw [decide_eq_true y]
          refine iteF ?_
          exact ⟨rfl, rfl, z', y⟩
        · rw [decide_eq_false y]
          refine iteT ?_
          exact no fun h => y h.2
      · have z' : ¬ 0 ≤ pl := fun y => z (decide_eq_true y)
        refine ⟨_, rfl, ?_⟩
        refine iteT ?_
        exact no fun h => z' h.1
    rintro σ H2 ⟨rfl, rfl, p0, p1⟩
    refine ⟨_, rfl, _, rfl, a, _, rfl, .inr ha, rfl, flat_ints ns, _, rfl, ?_⟩
    rw [in_ints]
    by_cases z : soul ∈ ns
    · rw [decide_eq_true z]
      refine iteT ?_
      refine ⟨_, rfl, smallB rfl, fun t ht => ?_⟩
      generalize eNew : upd _ t _ = H3
      obtain ⟨s3, u3⟩ := fresh_of eNew ht
      clear eNew
      refine q _ _ s3 ?_
      rw [show resOf ns (some pl) soul = .err "Known" soul from (if_pos ⟨p0, p1⟩).trans (if_pos z)]
      exact ⟨t, rfl, SqT.of u3⟩
    · rw [decide_eq_false z]
      refine iteF ?_
      have h1 : pl ≤ ((ns.map V.int).length : Int) := by rw [hl]; exact p1
      have c1 : cutV (ns.map V.int) none (some pl) = (ns.take pl.toNat).map V.int := by rw [cut_to p0 h1, List.map_take]
      have c2 : cutV (ns.map V.int) (some pl) none = (ns.drop pl.toNat).map V.int := by rw [cut_from p0 h1, List.map_drop]
      have l1 : ((ns.take pl.toNat).map V.int).length ≤ 900 := by rw [List.length_map, List.length_take]; omega
      refine ⟨_, rfl, _, rfl, pl, rfl, a, _, rfl, .inr ⟨ha, fun q1 H3 s3 h3 => ?_⟩⟩
      rw [c1] at h3
      refine ⟨_, rfl, smallB rfl, fun q3 hq3 => ?_⟩
      generalize eNew : upd _ q3 _ = H5
      obtain ⟨s5, u5⟩ := fresh_of eNew hq3
      clear eNew
      refine ⟨q1, q3, _, _, rfl, rfl, seqT s5 h3, SqT.of u5, small (by show _ + 1 ≤ 1000; omega), fun q4 H6 s6 h6 => ?_⟩
      have w6 := s3.trans (s5.trans s6)
      refine ⟨_, rfl, _, rfl, pl, rfl, a, _, rfl, .inr ⟨seqT w6 ha, fun q5 H7 s7 h7 => ?_⟩⟩
      rw [c2] at h7
      refine ⟨q4, q5, _, _, rfl, rfl, seqT s7 h6, h7, small (by rw [List.length_append]; show _ + 1 + _ ≤ 1000; rw [List.length_map, List.length_map, List.length_take, List.length_drop]; omega), fun q7 H9 s9 h9 => ?_⟩
      refine q _ _ ((w6.trans s7).trans s9) ?_
      rw [show resOf ns (some pl) soul = .row (withOf ns pl soul) from (if_pos ⟨p0, p1⟩).trans (if_neg z)]
      refine ⟨q7, rfl, ?_, ?_⟩
      · unfold withOf
        rw [List.map_append, List.map_append]
        exact h9
      · unfold withOf
        rw [List.length_append, List.length_append, List.length_take, List.length_drop, List.length_singleton]
        omega
end
end Ov

set_option Elab.async false
set_option linter.all false
set_option maxRecDepth 100000
set_option maxHeartbeats 4000000
namespace Ov
open PySem L2
theorem cut_k {xs : List V} {k : Nat} : cutV xs none (some (k : Int)) = xs.take k := by
  unfold cutV
  rw [HT.sIx_none, HT.sIx_nat, Nat.sub_zero, List.drop_zero]
  rcases Nat.le_total k xs.length with h | h
  · rw [Nat.min_eq_left h]
  · rw [Nat.min_eq_right h, List.take_length, List.take_of_length_le h]
theorem eqv_intsT (ns ms : List Int) : PyData.eqv (.tuple (ns.map .int)) (.tuple (ms.map .int)) = decide (ns = ms) := by
  have h := eqv_ints ns ms
  unfold dInts at h
  simp only [PyData.eqv] at h ⊢
  exact h
theorem with_back {ns : List Int} {pl h : Int} (no : h ∉ ns) : (withOf ns pl h).filter (· ≠ h) = ns := by
  have all : ∀ l : List Int, (∀ x ∈ l, x ∈ ns) → l.filter (· ≠ h) = l := fun l hl => List.filter_eq_self.mpr fun x hx => decide_eq_true fun e => no (e ▸ hl x hx)
  unfold withOf
  rw [List.filter_append, List.filter_append, all _ fun x hx => List.mem_of_mem_take hx, all _ fun x hx => List.mem_of_mem_drop hx]
  have e : [h].filter (· ≠ h) = [] := by simp
  rw [e, List.append_nil, List.take_append_drop]
def spRight : Sp := fun vs H Q _ => ∃ (p : Addr) (b : Int), vs = [.ref p] ∧ Bx H p b ∧ b ≤ 2 ^ 47 ∧ ∀ H', SameB p H H' → Bx H' p (b + 1100) → Q (.bl true) H'
/-- what stands: the row, the list of it -/
structure Fx (K : PySem.W.Frag) (H : Hp) (cr l fr : Addr) (ns fs : List Int) : Prop where
  t : SqT K H cr (ns.map V.int)
  l : H l = some (.lst (ns.map V.int))
  f : H fr = some (.lst (fs.map V.int))
theorem Fx.same {K : PySem.W.Frag} {H H' : Hp} {cr l fr : Addr} {ns fs : List Int} (x : Fx K H cr l fr ns fs) (s : Same H H') : Fx K H' cr l fr ns fs := ⟨seqT s x.t, s _ _ x.l, s _ _ x.f⟩
theorem two_sm {K : PySem.W.Frag} {H : Hp} {p q : Addr} {a b c d : V} {r : Res} (hp : H p = some (.lst [a, b])) (hq : H q = some (.lst [c, d])) (ha : IsRes K H a r) (hb : IsRes K H b r) (hc : IsRes K H c r) (hd : IsRes K H d r) : Sm K 3 H (.ref p) (.ref q) := by
  refine .inr ⟨p, q, _, _, rfl, rfl, .inl ⟨SqL.of hp, SqL.of hq⟩, rfl, by show 2 ≤ 1000; decide, fun j x y hx hy => ?_⟩
  have hj : j < 2 := (List.getElem?_eq_some_iff.mp hx).1
  match j, hj with
  | 0, _ =>
    cases hx
    cases hy
    exact res_sm ha hc
  | 1, _ =>
    cases hx
    cases hy
    exact res_sm hb hd
section
variable {P : Program} {w : World} {K : PySem.W.Frag} {mg : Str → Option Value} {base : Heap} {f : Addr} {fd : FuncData} {c : Ad}
theorem ok_right (F : Fun K "_law_right" "_law_right" S_right f fd) {gC : Addr} {dC : FuncData} (GC : FnOk P w K mg base CX0 5 gC dC P_crowd spCrowd) (bC : Binds K dC P_crowd []) (kC : PySem.W.keepIn K (.ref gC) = true) (mC : mg "_law_crowd" = some (.ref gC)) {gT : Addr} {dT : FuncData} (GT : FnOk P w K mg base CX0 2 gT dT P_take (spTake 2)) (bT : Binds K dT P_take []) (kT : PySem.W.keepIn K (.ref gT) = true) (mT : mg "_law_take" = some (.ref gT)) {gD : Addr} {dD : FuncData} (GD : FnOk P w K mg base CX0 1 gD dD P_due (spTell K true)) (bD : Binds K dD P_due []) (kD : PySem.W.keepIn K (.ref gD) = true) (mD : mg "_law_due" = some (.ref gD)) {gL : Addr} {dL : FuncData} (GL : FnOk P w K mg base CX0 5 gL dL P_told (spTell K false)) (bL : Binds K dL P_told []) (kL : PySem.W.keepIn K (.ref gL) = true) (mL : mg "_law_told" = some (.ref gL)) {gS : Addr} {dS : FuncData} (GS : FnOk P w K mg base CX0 3 gS dS P_same (spSame K 3)) (bS : Binds K dS P_same []) (kS : PySem.W.keepIn K (.ref gS) = true) (mS : mg "_law_same" = some (.ref gS))
    {gX : Addr} {dX : FuncData} (GX : FnOk P w K mg base (L2.CX P w) 4 gX dX P_without (spWout K c)) (bX : Binds K dX P_without []) (kX : PySem.W.keepIn K (.ref gX) = true) (mX : mg "without" = some (.ref gX)) (B : Blt mg) : FnOk P w K mg base CX0 6 f fd P_right spRight := by
  refine F.ok sc_right (fun vs H Q E h => ?_) (fun cdv A outer s H vs Q E hr h => ?_)
  · obtain ⟨p, b, rfl, _⟩ := h
    rfl
  obtain ⟨p, b, rfl, hb, hb1, hQ⟩ := h
  have hr1 : Room 1 _ := hr.mono (by decide)
  have hr2 : Room 2 _ := hr.mono (by decide)
  have hr3 : Room 3 _ := hr.mono (by decide)
  have hr4 : Room 4 _ := hr.mono (by decide)
  refine ⟨_, (Evl.pss_cut (ps_set (i := 1) sc_right.nd rfl (Or.inl rfl) (pe_call GC hr rfl mC kC bC .nil pass0 (pa_cons (pv 0) (pa_cons pe_int pa_nil))))
    (Evl.pss_cut (ps_set (i := 2) sc_right.nd rfl (Or.inl rfl) (pe_callTy call_list_of rfl B.list (by decide +kernel) (pa_cons (pv 1) pa_nil)))
    (Evl.pss_cut (ps_set (i := 3) sc_right.nd rfl (Or.inl rfl) (pe_op op_cat (pe_lst (pa_cons (pe_op op_add pe_int (pe_call GT hr2 rfl mT kT bT .nil pass0 (pa_cons (pv 0) (pa_cons pe_int pa_nil)))) (pa_cons (pe_op op_add pe_int (pe_call GT hr2 rfl mT kT bT .nil pass0 (pa_cons (pv 0) (pa_cons (pe_op op_pow pe_int pe_int) pa_nil)))) (pa_cons (pe_op op_pow pe_int pe_int) pa_nil)))) (pe_slice sl_cut (pv 2) po_none (po_some pe_int))))
    (Evl.pss_cut (ps_for PassesOwn.never rfl (pi_list (pv 3)) (pg_name (i := 4) sc_right.nd rfl (Or.inl rfl))
      (pss_one (ps_for PassesOwn.never rfl (pi_list (pe_op op_cat (pe_lst (pa_cons (pe_un un_neg pe_int) (pa_cons (pe_op op_add (pe_callB call_len_seq rfl B.len PySem.boot_len (pa_cons (pv 1) pa_nil)) pe_int) (pa_cons (pe_op op_pow pe_int pe_int) pa_nil)))) (pe_listRg rfl rfl B.list (prg_1 rfl B.range (pe_op op_add (pe_callB call_len_seq rfl B.len PySem.boot_len (pa_cons (pv 1) pa_nil)) pe_int))))) (pg_name (i := 5) sc_right.nd rfl (Or.inl rfl))
        (Evl.pss_cut (ps_set (i := 6) sc_right.nd rfl (Or.inl rfl) (pe_call GD hr1 rfl mD kD bD .nil pass0 (pa_cons (pv 1) (pa_cons (pv 5) (pa_cons (pv 4) pa_nil)))))
        (Evl.pss_cut (ps_if (pt_not (pt_val (pe_call GS hr3 rfl mS kS bS .nil pass0 (pa_cons (pe_lst (pa_cons (pe_call GL hr rfl mL kL bL .nil pass0 (pa_cons (pv 1) (pa_cons (pv 5) (pa_cons (pv 4) pa_nil)))) (pa_cons (pe_call GL hr rfl mL kL bL .nil pass0 (pa_cons (pv 2) (pa_cons (pv 5) (pa_cons (pv 4) pa_nil)))) pa_nil))) (pa_cons (pe_lst (pa_cons (pv 6) (pa_cons (pv 6) pa_nil))) pa_nil))))) (pss_one (ps_ret pe_bl)) pss_nil)
        (pss_one (ps_if (PW.pt (pw_and (pt_cmpR op_notIn_seq (pv 4) (pv 1) (by rfl)) (pw_and (pt_chain op_le op_le pe_int (pv 5) (pe_callB call_len_seq rfl B.len PySem.boot_len (pa_cons (pv 1) pa_nil))) (pw_and1 (pt_cmpR (op_neD hr.units) (pe_call GX hr4 rfl mX kX bX .nil passF (pa_cons (pv 6) (pa_cons (pv 4) pa_nil))) (pv 1) (nomark _)))))) (pss_one (ps_ret pe_bl)) pss_nil)))))))
    (Evl.pss_cut (ps_for PassesOwn.never rfl (pi_list (pe_op op_cat (pe_op op_cat (pv 2) (pv 3)) (pe_lst (pa_cons pe_int (pa_cons (pe_un un_neg pe_int) (pa_cons (pe_op op_pow pe_int pe_int) pa_nil)))))) (pg_name (i := 4) sc_right.nd rfl (Or.inl rfl))
      (Evl.pss_cut (ps_set (i := 6) sc_right.nd rfl (Or.inl rfl) (pe_call GD hr1 rfl mD kD bD .nil pass0 (pa_cons (pv 1) (pa_cons pe_non (pa_cons (pv 4) pa_nil)))))
      (pss_one (ps_if (pt_not (pt_val (pe_call GS hr3 rfl mS kS bS .nil pass0 (pa_cons (pe_lst (pa_cons (pe_call GL hr rfl mL kL bL .nil pass0 (pa_cons (pv 1) (pa_cons pe_non (pa_cons (pv 4) pa_nil)))) (pa_cons (pe_call GL hr rfl mL kL bL .nil pass0 (pa_cons (pv 2) (pa_cons pe_non (pa_cons (pv 4) pa_nil)))) pa_nil))) (pa_cons (pe_lst (pa_cons (pv 6) (pa_cons (pv 6) pa_nil))) pa_nil))))) (pss_one (ps_ret pe_bl)) pss_nil))))
    (pss_one (ps_ret (pe_cmpR (op_eqD hr.units) (pv 2) (pe_callTy call_list_of rfl B.list (by decide +kernel) (pa_cons (pv 1) pa_nil)) (nomark _))))))))), ?_⟩
  refine ⟨fun σ H' => ∃ (cr : Addr) (ns : List Int), σ = [some (.ref p), some (.ref cr), none, none, none, none, none] ∧ ns.length ≤ 15 ∧ SameB p H H' ∧ H' cr = some (.tup (ns.map V.int)) ∧ Bx H' p (b + 1000), ?_, ?_⟩
  · exact ⟨_, rfl, p, 15, b, rfl, by decide, by decide, hb, by omega, fun r ns H1 h1 _ _ _ s1 u1 x1 => ⟨r, ns, rfl, by omega, s1, u1, x1⟩⟩
  rintro σ H1 ⟨cr, ns, rfl, hn, s1, ucr, x1⟩
  have cp : cr ≠ p := fun e => by
    obtain ⟨z0, z1, z2, hz, _⟩ := x1
    rw [e, hz] at ucr
    cases ucr
  refine ⟨fun σ H' => ∃ l, σ = [some (.ref p), some (.ref cr), some (.ref l), none, none, none, none] ∧ Same H1 H' ∧ H1 l = none ∧ H' l = some (.lst (ns.map V.int)), ?_, ?_⟩
  · refine ⟨_, rfl, cr, _, rfl, .inr (SqT.of ucr), fun l hl => ?_⟩
    generalize eNew : upd _ l _ = H2
    obtain ⟨s2, u2⟩ := fresh_of eNew hl
    clear eNew
    exact ⟨l, rfl, s2, hl, u2⟩
  rintro σ H2 ⟨l, rfl, s2, nl, ul⟩
  have lp : l ≠ p := fun e => by
    obtain ⟨z0, z1, z2, hz, _⟩ := x1
    rw [e, hz] at nl
    cases nl
  have x2 := x1.same s2
  refine ⟨fun σ H' => ∃ (fr : Addr) (fs : List Int), σ = [some (.ref p), some (.ref cr), some (.ref l), some (.ref fr), none, none, none] ∧ fs.length ≤ 5 ∧ SameB p H2 H' ∧ Fx K H' cr l fr ns fs ∧ Bx H' p (b + 1100), ?_, ?_⟩
  · refine ⟨_, rfl, p, 20, b + 1000, 1, rfl, x2, by omega, by decide, by decide, by decide, .inl ⟨by decide, rfl⟩, fun v H3 v0 v1 s3 x3 => ?_⟩
    refine ⟨_, _, rfl, rfl, _, rfl, _, _, rfl, rfl, ⟨by decide, by decide, by decide⟩, p, _, b + 1001, 2, rfl, x3.mono (by omega), by omega, by decide, by decide, by decide, .inr ⟨by decide, by omega, rfl⟩, fun v' H4 w0 w1 s4 x4 => ?_⟩
    refine ⟨_, _, rfl, rfl, _, _, rfl, rfl, ⟨by decide, by decide, by decide⟩, smallB rfl, fun l1 hl1 => ?_⟩
    generalize eNew : upd _ l1 _ = H5
    obtain ⟨s5, u5⟩ := fresh_of eNew hl1
    clear eNew
    have ul5 := s5 _ _ (s4 _ _ lp (s3 _ _ lp ul))
    refine ⟨_, rfl, 2, rfl, l, _, rfl, .inl ⟨SqL.of ul5, fun l2 H6 s6 n6 u6 => ?_⟩⟩
    replace u6 : H6 l2 = some (.lst ((ns.take 2).map V.int)) := u6.trans (congrArg (fun z => some (HO.lst z)) ((cut_k (xs := ns.map V.int) (k := 2)).trans List.map_take.symm))
    refine ⟨l1, l2, _, _, rfl, rfl, s6 _ _ u5, u6, small (by rw [List.length_map, List.length_take]; show 3 + _ ≤ 1000; omega), fun fr hfr => ?_⟩
    generalize eNew : upd _ fr _ = H7
    obtain ⟨s7, u7⟩ := fresh_of eNew hfr
    clear eNew
    have w7 := (s5.trans s6).trans s7
    refine ⟨fr, [1 + v, 1 + v', 10 ^ Int.toNat 9] ++ ns.take 2, rfl, by rw [List.length_append, List.length_take]; show 3 + _ ≤ 5; omega, (s3.trans s4).trans (SameB.of w7), ⟨SqT.of (w7 _ _ (s4 _ _ cp (s3 _ _ cp (s2 _ _ ucr)))), w7 _ _ (s4 _ _ lp (s3 _ _ lp ul)), ?_⟩, (x4.same w7).mono (by omega)⟩
    rw [u7, List.map_append]
    rfl
  rintro σ H3 ⟨fr, fs, rfl, hfs, s3, fx, x3⟩
  have sA : SameB p H H3 := (s1.trans (SameB.of s2)).trans s3
  have hl : (ns.map V.int).length = ns.length := List.length_map _
  -- told twice beside what is due
  refine ⟨fun σ H' => ∃ x4 x5 x6 : Option V, σ = [some (.ref p), some (.ref cr), some (.ref l), some (.ref fr), x4, x5, x6] ∧ Same H3 H', ?_, ?_⟩
  · refine ⟨_, rfl, fr, rfl, ⟨_, SqL.of fx.f⟩, ?_⟩
    refine for_list (K := K) (xs := fs.map V.int) (fun i σ H' => ∃ x4 x5 x6 : Option V, σ = [some (.ref p), some (.ref cr), some (.ref l), some (.ref fr), x4, x5, x6] ∧ Same H3 H') ⟨_, _, _, rfl, same_refl _⟩ ?_ ?_ ?_
    · rintro i σ H' _ ⟨x4, x5, x6, rfl, sP⟩
      exact SqL.of (sP _ _ fx.f)
    · rintro i x σ HI hi ⟨x4, x5, x6, rfl, sP⟩
      rw [List.getElem?_map] at hi
      obtain ⟨soul, _, rfl⟩ := Option.map_eq_some_iff.mp hi
      have fI := fx.same sP
      refine ⟨_, rfl, _, rfl, cr, _, rfl, .inr fI.t, _, _, rfl, rfl, _, _, rfl, rfl, ⟨by decide, by decide, by decide⟩, smallB rfl, fun l1 hl1 => ?_⟩
      generalize eNew : upd _ l1 _ = H4
      obtain ⟨s4, u4⟩ := fresh_of eNew hl1
      clear eNew
      refine ⟨_, rfl, cr, _, rfl, .inr (seqT s4 fI.t), _, _, rfl, rfl, _, rfl, RgOk.of_le (by omega) (by rw [hl]; omega) (by omega) (by omega), fun l2 hl2 => ?_⟩
      generalize eNew : upd _ l2 _ = H5
      obtain ⟨s5, u5⟩ := fresh_of eNew hl2
      clear eNew
      refine ⟨l1, l2, _, _, rfl, rfl, s5 _ _ u4, u5, small (by rw [rgV_length, hl]; show 3 + _ ≤ 1000; omega), fun l3 hl3 => ?_⟩
      generalize eNew : upd _ l3 _ = H6
      obtain ⟨s6, u6⟩ := fresh_of eNew hl3
      clear eNew
      have w6 := (s4.trans s5).trans s6
      have hjs : ∃ js : List Int, H6 l3 = some (.lst (js.map V.int)) := ⟨_, u6.trans (congrArg (fun z => some (HO.lst z)) (by
        show [V.int (-1), V.int (((ns.map V.int).length : Int) + 1), V.int (10 ^ Int.toNat 12)] ++ (List.range _).map (fun i => V.int (0 + (i : Nat))) = (([-1, ((ns.map V.int).length : Int) + 1, 10 ^ Int.toNat 12] : List Int) ++ (List.range (((ns.map V.int).length : Int) + 1 - 0).toNat).map (fun i : Nat => (0 + (i : Int)))).map V.int
        rw [List.map_append, List.map_map]
        rfl))⟩
      obtain ⟨js, u6⟩ := hjs
      refine ⟨l3, rfl, ⟨_, SqL.of u6⟩, ?_⟩
      refine for_list (K := K) (xs := js.map V.int) (fun i σ H' => ∃ x5 x6 : Option V, σ = [some (.ref p), some (.ref cr), some (.ref l), some (.ref fr), some (.int soul), x5, x6] ∧ Same H6 H') ⟨_, _, rfl, same_refl _⟩ ?_ ?_ ?_
      · rintro i σ H' _ ⟨x5, x6, rfl, sJ⟩
        exact SqL.of (sJ _ _ u6)
      · rintro j x σ HJ hj ⟨x5, x6, rfl, sJ⟩
        rw [List.getElem?_map] at hj
        obtain ⟨spot, _, rfl⟩ := Option.map_eq_some_iff.mp hj
        have fJ := (fI.same w6).same sJ
        refine ⟨fun σ H' => ∃ v, σ = [some (.ref p), some (.ref cr), some (.ref l), some (.ref fr), some (.int soul), some (.int spot), some v] ∧ Same HJ H' ∧ IsRes K H' v (resOf ns (some spot) soul), ?_, ?_⟩
        · exact ⟨_, rfl, _, rfl, _, rfl, cr, ns, some spot, soul, rfl, fJ.t, by omega, fun v H' s' r' => ⟨v, rfl, s', r'⟩⟩
        rintro σ HK ⟨v, rfl, sK, rK⟩
        have fK := fJ.same sK
        refine ⟨fun σ H' => σ = [some (.ref p), some (.ref cr), some (.ref l), some (.ref fr), some (.int soul), some (.int spot), some v] ∧ Same HK H', ?_, ?_⟩
        · refine ⟨_, rfl, _, rfl, _, rfl, cr, ns, some spot, soul, rfl, .inr fK.t, by omega, fun v1 H7 s7 r7 => ?_⟩
          refine ⟨_, rfl, _, rfl, _, rfl, l, ns, some spot, soul, rfl, .inl (SqL.of (fK.same s7).l), by omega, fun v2 H8 s8 r8 => ?_⟩
          refine ⟨smallB rfl, fun m1 hm1 => ?_⟩
          generalize eNew : upd _ m1 _ = H9
          obtain ⟨s9, u9⟩ := fresh_of eNew hm1
          clear eNew
          refine ⟨_, rfl, _, rfl, smallB rfl, fun m2 hm2 => ?_⟩
          generalize eNew : upd _ m2 _ = Ha
          obtain ⟨sa, ua⟩ := fresh_of eNew hm2
          clear eNew
          have wa := ((s7.trans s8).trans s9).trans sa
          refine ⟨_, _, rfl, two_sm (sa _ _ u9) ua (((r7.same s8).same s9).same sa) ((r8.same s9).same sa) (rK.same wa) (rK.same wa), fun Hb sb => ?_⟩
          refine ⟨_, rfl, ?_⟩
          refine iteF ?_
          exact ⟨rfl, wa.trans sb⟩
        rintro σ HM ⟨rfl, sM⟩
        have fM := fK.same sM
        have rM := rK.same sM
        have wM := ((sJ.trans sK).trans sM)
        have fin : ∀ H', Same HM H' → ∃ x5 x6 : Option V, [some (V.ref p), some (.ref cr), some (.ref l), some (.ref fr), some (.int soul), some (.int spot), some v] = [some (.ref p), some (.ref cr), some (.ref l), some (.ref fr), some (.int soul), x5, x6] ∧ Same H6 H' := fun H' s' => ⟨_, _, rfl, wM.trans s'⟩
        refine ⟨_, rfl, _, rfl, cr, _, rfl, .inr fM.t, rfl, flat_ints ns, _, rfl, ?_⟩
        rw [in_ints]
        by_cases hin : soul ∈ ns
        · rw [decide_eq_true hin]
          refine iteF ?_
          refine iteF ?_
          exact fin _ (same_refl _)
        · rw [decide_eq_false hin]
          refine iteT ?_
          refine ⟨_, rfl, _, _, rfl, rfl, _, rfl, ?_⟩
          refine ite2 (fun z => ?_) (fun z => ?_)
          · have z' : 0 ≤ spot := of_decide_eq_true z
            refine ⟨_, rfl, cr, _, rfl, .inr fM.t, _, _, rfl, rfl, _, rfl, ?_⟩
            rw [hl]
            by_cases y : spot ≤ (ns.length : Int)
            · rw [decide_eq_true y]
              refine iteT ?_
              rw [show resOf ns (some spot) soul = .row (withOf ns spot soul) from (if_pos ⟨z', y⟩).trans (if_neg hin)] at rM
              obtain ⟨d, rfl, hd, hdl⟩ := rM
              refine ⟨_, rfl, _, rfl, d, withOf ns spot soul, soul, rfl, .inr hd, ?_, fun q => absurd ?_ q, fun _ e He se ue => ?_⟩
              · unfold withOf
                rw [List.length_append, List.length_append, List.length_take, List.length_drop, List.length_singleton]
                omega
              · unfold withOf
                simp
              rw [with_back hin] at ue
              refine ⟨_, rfl, .tuple (ns.map .int), .tuple (ns.map .int), dp_intsT ue, dp_intsT (seqT se fM.t), sh_intsT ns, sh_intsT ns, ?_⟩
              rw [eqv_intsT, decide_eq_true rfl]
              refine ⟨_, rfl, ?_⟩
              refine iteF ?_
              exact fin _ se
            · rw [decide_eq_false y]
              refine iteF ?_
              refine iteF ?_
              exact fin _ (same_refl _)
          · refine ⟨_, rfl, ?_⟩
            refine iteF ?_
            refine iteF ?_
            exact fin _ (same_refl _)
      · rintro σ H' ⟨x5, x6, rfl, sJ⟩
        exact ⟨_, _, _, rfl, (sP.trans w6).trans sJ⟩
    · rintro σ H' ⟨x4, x5, x6, rfl, sP⟩
      exact ⟨_, _, _, rfl, sP⟩
  rintro σ H4 ⟨x4, x5, x6, rfl, s4⟩
  have f4 := fx.same s4
  refine ⟨fun σ H' => ∃ x4 x5 x6 : Option V, σ = [some (.ref p), some (.ref cr), some (.ref l), some (.ref fr), x4, x5, x6] ∧ Same H4 H', ?_, ?_⟩
  · refine ⟨_, rfl, _, rfl, l, fr, _, _, rfl, rfl, f4.l, f4.f, small (by rw [List.length_map, List.length_map]; omega), fun l1 hl1 => ?_⟩
    generalize eNew : upd _ l1 _ = H5
    obtain ⟨s5, u5⟩ := fresh_of eNew hl1
    clear eNew
    refine ⟨_, rfl, _, _, rfl, rfl, ⟨by decide, by decide, by decide⟩, smallB rfl, fun l2 hl2 => ?_⟩
    generalize eNew : upd _ l2 _ = H6
    obtain ⟨s6, u6⟩ := fresh_of eNew hl2
    clear eNew
    refine ⟨l1, l2, _, _, rfl, rfl, s6 _ _ u5, u6, small (by rw [List.length_append, List.length_map, List.length_map]; show _ + 3 ≤ 1000; omega), fun l3 hl3 => ?_⟩
    generalize eNew : upd _ l3 _ = H7
    obtain ⟨s7, u7⟩ := fresh_of eNew hl3
    clear eNew
    have w7 := (s5.trans s6).trans s7
    have hjs : ∃ js : List Int, H7 l3 = some (.lst (js.map V.int)) := ⟨(ns ++ fs) ++ [0, -5, 10 ^ Int.toNat 12], u7.trans (congrArg (fun z => some (HO.lst z)) (by
      rw [List.map_append, List.map_append]
      rfl))⟩
    obtain ⟨js, u7⟩ := hjs
    refine ⟨l3, rfl, ⟨_, SqL.of u7⟩, ?_⟩
    refine for_list (K := K) (xs := js.map V.int) (fun i σ H' => ∃ x4 x5 x6 : Option V, σ = [some (.ref p), some (.ref cr), some (.ref l), some (.ref fr), x4, x5, x6] ∧ Same H7 H') ⟨_, _, _, rfl, same_refl _⟩ ?_ ?_ ?_
    · rintro i σ H' _ ⟨x4, x5, x6, rfl, sP⟩
      exact SqL.of (sP _ _ u7)
    · rintro i x σ HJ hi ⟨x4, x5, x6, rfl, sJ⟩
      rw [List.getElem?_map] at hi
      obtain ⟨soul, _, rfl⟩ := Option.map_eq_some_iff.mp hi
      have fJ := (f4.same w7).same sJ
      refine ⟨fun σ H' => ∃ v, σ = [some (.ref p), some (.ref cr), some (.ref l), some (.ref fr), some (.int soul), x5, some v] ∧ Same HJ H' ∧ IsRes K H' v (resOf ns none soul), ?_, ?_⟩
      · exact ⟨_, rfl, _, rfl, cr, ns, none, soul, rfl, fJ.t, by omega, fun v H' s' r' => ⟨v, rfl, s', r'⟩⟩
      rintro σ HK ⟨v, rfl, sK, rK⟩
      have fK := fJ.same sK
      refine ⟨_, rfl, _, rfl, cr, ns, none, soul, rfl, .inr fK.t, by omega, fun v1 Ha sa ra => ?_⟩
      refine ⟨_, rfl, _, rfl, l, ns, none, soul, rfl, .inl (SqL.of (fK.same sa).l), by omega, fun v2 Hb sb rb => ?_⟩
      refine ⟨smallB rfl, fun m1 hm1 => ?_⟩
      generalize eNew : upd _ m1 _ = Hc
      obtain ⟨sc, uc⟩ := fresh_of eNew hm1
      clear eNew
      refine ⟨_, rfl, _, rfl, smallB rfl, fun m2 hm2 => ?_⟩
      generalize eNew : upd _ m2 _ = Hd
      obtain ⟨sd, ud⟩ := fresh_of eNew hm2
      clear eNew
      have wd := ((sa.trans sb).trans sc).trans sd
      refine ⟨_, _, rfl, two_sm (sd _ _ uc) ud (((ra.same sb).same sc).same sd) ((rb.same sc).same sd) (rK.same wd) (rK.same wd), fun He se => ?_⟩
      refine ⟨_, rfl, ?_⟩
      refine iteF ?_
      exact ⟨_, _, _, rfl, (sJ.trans sK).trans (wd.trans se)⟩
    · rintro σ H' ⟨x4, x5, x6, rfl, sJ⟩
      exact ⟨_, _, _, rfl, w7.trans sJ⟩
  rintro σ H5 ⟨x4, x5, x6, rfl, s5⟩
  have f5 := f4.same s5
  refine ⟨_, rfl, _, rfl, cr, _, rfl, .inr f5.t, fun m hm => ?_⟩
  generalize eNew : upd _ m _ = H6
  obtain ⟨s6, u6⟩ := fresh_of eNew hm
  clear eNew
  refine ⟨dInts ns, dInts ns, dp_ints (SqL.of (s6 _ _ f5.l)), dp_ints (SqL.of u6), sh_ints ns, sh_ints ns, ?_⟩
  rw [eqv_ints, decide_eq_true rfl]
  have wE := (s4.trans s5).trans s6
  exact hQ _ (sA.trans (SameB.of wE)) (x3.same wE)
end
end Ov

set_option Elab.async false
set_option linter.all false
set_option maxRecDepth 100000
set_option maxHeartbeats 4000000
namespace Ov
open PySem L2
def spLaw (K : PySem.W.Frag) : Sp := fun vs H Q _ => ∃ (a : Addr) (ns : List Int), vs = [.ref a] ∧ SqL K H a (ns.map V.int) ∧ ns.length ≤ 63 ∧ ∀ H', Q (.bl true) H'
section
variable {P : Program} {w : World} {K : PySem.W.Frag} {mg : Str → Option Value} {base : Heap} {f : Addr} {fd : FuncData}
theorem ok_law (F : Fun K "law" "law" S_law f fd) {gB : Addr} {dB : FuncData} (GB : FnOk P w K mg base CX0 2 gB dB P_box (spBox K)) (bB : Binds K dB P_box []) (kB : PySem.W.keepIn K (.ref gB) = true) (mB : mg "_law_box" = some (.ref gB)) {gR : Addr} {dR : FuncData} (GR : FnOk P w K mg base CX0 6 gR dR P_right spRight) (bR : Binds K dR P_right []) (kR : PySem.W.keepIn K (.ref gR) = true) (mR : mg "_law_right" = some (.ref gR)) (B : Blt mg) : FnOk P w K mg base CX0 7 f fd P_law (spLaw K) := by
  refine F.ok sc_law (fun vs H Q E h => ?_) (fun cdv A outer s H vs Q E hr h => ?_)
  · obtain ⟨a, ns, rfl, _⟩ := h
    rfl
  obtain ⟨a, ns, rfl, hS, hn, q⟩ := h
  have hr2 : Room 2 _ := hr.mono (by decide)
  refine ⟨_, (Evl.pss_cut (ps_for PassesOwn.never rfl (pi_range1 rfl B.range (pa_cons (pe_op op_add pe_int (pe_callB (call_min2 rfl) rfl B.min (by decide +kernel) (pa_cons pe_int (pa_cons (pe_callB call_len_seq rfl B.len PySem.boot_len (pa_cons (pv 0) pa_nil)) pa_nil)))) pa_nil)) (pg_name (i := 1) sc_law.nd rfl (Or.inl rfl))
      (Evl.pss_cut (ps_set (i := 2) sc_law.nd rfl (Or.inr rfl) (pe_call GB hr2 rfl mB kB bB .nil pass0 (pa_cons (pv 0) (pa_cons (pv 1) pa_nil))))
      (pss_one (ps_if (pt_not (pt_val (pe_callB (cr_all rfl) rfl B.all (by decide +kernel) (pa_cons (pe_lc (own := [("_law_turn", 3)]) (g := gName 3) rfl sc_law.nd (pi_range1 rfl B.range (pa_cons pe_int pa_nil)) (blkOk_by (own := [("_law_turn", 3)]) (N := ["_law_script", "_law_k", "_law_box_here", "_law_turn"]) (sc := defScope S_law) (by decide +kernel)) (fun _ _ _ _ _ => pg_name (i := 3) sc_law.nd rfl (Or.inl rfl)) (fun _ _ _ _ _ => pts_nil) (fun _ _ _ _ _ => (pe_call GR hr rfl mR kR bR .nil pass0 (pa_cons (pv 2) pa_nil)))) pa_nil)))) (pss_one (ps_ret pe_bl)) pss_nil))))
    (pss_one (ps_ret pe_bl))), ?_⟩
  refine ⟨fun _ _ => True, ?_, fun σ' H' _ => q H'⟩
  have hl : (ns.map V.int).length = ns.length := List.length_map _
  refine ⟨_, rfl, a, _, rfl, .inl hS, _, _, rfl, _, _, rfl, rfl, _, rfl, ?_, ?_, ?_⟩
  · split <;> omega
  · split <;> omega
  refine for_range (lo := 0) (n := (1 + (if ((ns.map V.int).length : Int) < 3 then ((ns.map V.int).length : Int) else 3)).toNat) (fun i σ H' => ∃ x1 x2 : Option V, σ = [some (.ref a), x1, x2, none] ∧ Same H H') ⟨_, _, rfl, same_refl _⟩ ?_ ?_
  · rintro i σ HI hi ⟨x1, x2, rfl, sI⟩
    have hi4 : (i : Int) ≤ 3 := by
      have : (1 + (if ((ns.map V.int).length : Int) < 3 then ((ns.map V.int).length : Int) else 3)) ≤ 4 := by split <;> omega
      omega
    refine ⟨fun σ H' => ∃ (x1 : Option V) (p : Addr), σ = [some (.ref a), x1, some (.ref p), none] ∧ Same HI H' ∧ HI p = none ∧ Bx H' p 0, ?_, ?_⟩
    · exact ⟨_, rfl, _, rfl, a, ns, _, rfl, sI.seq hS, by omega, by omega, fun p H' s' np bx => ⟨_, p, rfl, s', np, bx⟩⟩
    rintro σ HB ⟨x1', p, rfl, sB, np, bx⟩
    refine ⟨4, rfl, by decide, by decide, fun D hD => ?_⟩
    obtain ⟨b0, b1, b2, hb, _⟩ := id bx
    have Dp : D ≠ p := fun z => by
      rw [z, hb] at hD
      cases hD
    refine lc_range (lo := 0) (n := 4) (fun i H' => H' D = some (.lst (List.replicate i (.bl true))) ∧ SameB p HB H' ∧ Bx H' p ((i : Int) * 1100)) ⟨upd_same, SameB.of (same_new hD _), bx.same (same_new hD _)⟩ ?_ ?_
    · rintro j H' hj ⟨z1, z2, z3⟩
      refine ⟨rfl, ?_⟩
      refine ⟨_, rfl, p, _, rfl, z3, by omega, fun H3 s3 b3 => ?_⟩
      refine ⟨_, s3 _ _ Dp z1, small1000 (by rw [List.length_replicate]; omega), ?_, fun b o hbp hb => ?_, ?_⟩
      · rw [upd_same, ← List.replicate_succ']
      · rw [upd_ne (ne_of_none hb hD)]
        exact s3 _ _ hbp (z2 _ _ hbp hb)
      · have e : ((j + 1 : Nat) : Int) * 1100 = (j : Int) * 1100 + 1100 := by omega
        rw [e]
        obtain ⟨c0, c1, c2, hc, r⟩ := b3
        exact ⟨c0, c1, c2, (upd_ne (Ne.symm Dp)).trans hc, r⟩
    · rintro H' ⟨z1, z2, _⟩
      refine ⟨D, List.replicate 4 true, rfl, SqL.of (z1.trans rfl), ?_⟩
      refine ⟨_, rfl, ?_⟩
      refine iteF ?_
      exact ⟨_, _, rfl, same_mut (sI.trans sB) (back_none sI np) z2⟩
  · rintro σ H' _
    trivial
end
end Ov

set_option Elab.async false
set_option linter.all false
set_option maxRecDepth 100000
set_option maxHeartbeats 4000000
namespace Ov
open PySem L2
theorem all_mk {l : PySem.W.OpenLaw} {w : World} {K : PySem.W.Frag} {h : Heap} {mg : Str → Option Value} {fa f0 f1 f2 f3 f4 f5 f6 f7 f8 f9 f10 f11 f12 f13 f14 CKnown iKnown CNoPerson iNoPerson CNoPlace iNoPlace CNoNumber iNoNumber : Addr} (X : K.In h) (G : h.Ns mainGlobals mg) (hfa : mg "law" = some (.ref fa))
    {od0 an0 : Option Addr} {sl0 : Array (Option Value)} {oc0 kV0 dc0 pm0 cd0 ct0 : Value}
    {od1 an1 : Option Addr} {sl1 : Array (Option Value)} {oc1 kV1 dc1 pm1 cd1 ct1 : Value}
    {od2 an2 : Option Addr} {sl2 : Array (Option Value)} {oc2 kV2 dc2 pm2 cd2 ct2 : Value}
    {od3 an3 : Option Addr} {sl3 : Array (Option Value)} {oc3 kV3 dc3 pm3 cd3 ct3 : Value}
    {od4 an4 : Option Addr} {sl4 : Array (Option Value)} {oc4 kV4 dc4 pm4 cd4 ct4 : Value}
    {od5 an5 : Option Addr} {sl5 : Array (Option Value)} {oc5 kV5 dc5 pm5 cd5 ct5 : Value}
    {od6 an6 : Option Addr} {sl6 : Array (Option Value)} {oc6 kV6 dc6 pm6 cd6 ct6 : Value}
    {od7 an7 : Option Addr} {sl7 : Array (Option Value)} {oc7 kV7 dc7 pm7 cd7 ct7 : Value}
    {od8 an8 : Option Addr} {sl8 : Array (Option Value)} {oc8 kV8 dc8 pm8 cd8 ct8 : Value}
    {od9 an9 : Option Addr} {sl9 : Array (Option Value)} {oc9 kV9 dc9 pm9 cd9 ct9 : Value}
    {od10 an10 : Option Addr} {sl10 : Array (Option Value)} {oc10 kV10 dc10 pm10 cd10 ct10 : Value}
    {od11 an11 : Option Addr} {sl11 : Array (Option Value)} {oc11 kV11 dc11 pm11 cd11 ct11 : Value}
    {od12 an12 : Option Addr} {sl12 : Array (Option Value)} {oc12 kV12 dc12 pm12 cd12 ct12 : Value}
    {od13 an13 : Option Addr} {sl13 : Array (Option Value)} {oc13 kV13 dc13 pm13 cd13 ct13 : Value}
    {od14 an14 : Option Addr} {sl14 : Array (Option Value)} {oc14 kV14 dc14 pm14 cd14 ct14 : Value}
    {nmKnown qKnown : Str} {NKnown : Addr} {bsKnown sbKnown : List Value} {snKnown : List Str} {abKnown : Bool} {coKnown : Option Bool} {ddKnown : Option Addr} {w0Known w1Known w2Known w3Known w5Known : Option Value}
    {odKnown anKnown : Option Addr} {slKnown : Array (Option Value)} {ocKnown kVKnown dcKnown pmKnown cdKnown ctKnown : Value}
    {nmNoPerson qNoPerson : Str} {NNoPerson : Addr} {bsNoPerson sbNoPerson : List Value} {snNoPerson : List Str} {abNoPerson : Bool} {coNoPerson : Option Bool} {ddNoPerson : Option Addr} {w0NoPerson w1NoPerson w2NoPerson w3NoPerson w5NoPerson : Option Value}
    {odNoPerson anNoPerson : Option Addr} {slNoPerson : Array (Option Value)} {ocNoPerson kVNoPerson dcNoPerson pmNoPerson cdNoPerson ctNoPerson : Value}
    {nmNoPlace qNoPlace : Str} {NNoPlace : Addr} {bsNoPlace sbNoPlace : List Value} {snNoPlace : List Str} {abNoPlace : Bool} {coNoPlace : Option Bool} {ddNoPlace : Option Addr} {w0NoPlace w1NoPlace w2NoPlace w3NoPlace w5NoPlace : Option Value}
    {odNoPlace anNoPlace : Option Addr} {slNoPlace : Array (Option Value)} {ocNoPlace kVNoPlace dcNoPlace pmNoPlace cdNoPlace ctNoPlace : Value}
    {nmNoNumber qNoNumber : Str} {NNoNumber : Addr} {bsNoNumber sbNoNumber : List Value} {snNoNumber : List Str} {abNoNumber : Bool} {coNoNumber : Option Bool} {ddNoNumber : Option Addr} {w0NoNumber w1NoNumber w2NoNumber w3NoNumber w5NoNumber : Option Value}
    {odNoNumber anNoNumber : Option Addr} {slNoNumber : Array (Option Value)} {ocNoNumber kVNoNumber dcNoNumber pmNoNumber cdNoNumber ctNoNumber : Value}
    (a0 : PySem.W.nsIn K mainGlobals "check_person" = some (some (.ref f0)))
    (l0 : K.lookup f0 = some ⟨oc0, od0, .func (PySem.W.fnOf "check_person" "check_person" (defArgs S_check_person) (defBody S_check_person) (defScope S_check_person) .none kV0 dc0 pm0 an0 cd0 ct0), sl0⟩)
    (c0 : PySem.W.codeIn K cd0 "check_person" = true)
    (k0 : PySem.W.keepIn K (.ref f0) = true)
    (a1 : PySem.W.nsIn K mainGlobals "with_person" = some (some (.ref f1)))
    (l1 : K.lookup f1 = some ⟨oc1, od1, .func (PySem.W.fnOf "with_person" "with_person" (defArgs S_with_person) (defBody S_with_person) (defScope S_with_person) .none kV1 dc1 pm1 an1 cd1 ct1), sl1⟩)
    (c1 : PySem.W.codeIn K cd1 "with_person" = true)
    (k1 : PySem.W.keepIn K (.ref f1) = true)
    (a2 : PySem.W.nsIn K mainGlobals "without" = some (some (.ref f2)))
    (l2 : K.lookup f2 = some ⟨oc2, od2, .func (PySem.W.fnOf "without" "without" (defArgs S_without) (defBody S_without) (defScope S_without) .none kV2 dc2 pm2 an2 cd2 ct2), sl2⟩)
    (c2 : PySem.W.codeIn K cd2 "without" = true)
    (k2 : PySem.W.keepIn K (.ref f2) = true)
    (a3 : PySem.W.nsIn K mainGlobals "_law_cell_at" = some (some (.ref f3)))
    (l3 : K.lookup f3 = some ⟨oc3, od3, .func (PySem.W.fnOf "_law_cell_at" "_law_cell_at" (defArgs S_cell_at) (defBody S_cell_at) (defScope S_cell_at) .none kV3 dc3 pm3 an3 cd3 ct3), sl3⟩)
    (c3 : PySem.W.codeIn K cd3 "_law_cell_at" = true)
    (k3 : PySem.W.keepIn K (.ref f3) = true)
    (a4 : PySem.W.nsIn K mainGlobals "_law_box" = some (some (.ref f4)))
    (l4 : K.lookup f4 = some ⟨oc4, od4, .func (PySem.W.fnOf "_law_box" "_law_box" (defArgs S_box) (defBody S_box) (defScope S_box) .none kV4 dc4 pm4 an4 cd4 ct4), sl4⟩)
    (c4 : PySem.W.codeIn K cd4 "_law_box" = true)
    (k4 : PySem.W.keepIn K (.ref f4) = true)
    (a5 : PySem.W.nsIn K mainGlobals "_law_take" = some (some (.ref f5)))
    (l5 : K.lookup f5 = some ⟨oc5, od5, .func (PySem.W.fnOf "_law_take" "_law_take" (defArgs S_take) (defBody S_take) (defScope S_take) .none kV5 dc5 pm5 an5 cd5 ct5), sl5⟩)
    (c5 : PySem.W.codeIn K cd5 "_law_take" = true)
    (k5 : PySem.W.keepIn K (.ref f5) = true)
    (a6 : PySem.W.nsIn K mainGlobals "_law_of" = some (some (.ref f6)))
    (l6 : K.lookup f6 = some ⟨oc6, od6, .func (PySem.W.fnOf "_law_of" "_law_of" (defArgs S_of) (defBody S_of) (defScope S_of) .none kV6 dc6 pm6 an6 cd6 ct6), sl6⟩)
    (c6 : PySem.W.codeIn K cd6 "_law_of" = true)
    (k6 : PySem.W.keepIn K (.ref f6) = true)
    (a7 : PySem.W.nsIn K mainGlobals "_law_same" = some (some (.ref f7)))
    (l7 : K.lookup f7 = some ⟨oc7, od7, .func (PySem.W.fnOf "_law_same" "_law_same" (defArgs S_same) (defBody S_same) (defScope S_same) .none kV7 dc7 pm7 an7 cd7 ct7), sl7⟩)
    (c7 : PySem.W.codeIn K cd7 "_law_same" = true)
    (k7 : PySem.W.keepIn K (.ref f7) = true)
    (a8 : PySem.W.nsIn K mainGlobals "_law_strewn" = some (some (.ref f8)))
    (l8 : K.lookup f8 = some ⟨oc8, od8, .func (PySem.W.fnOf "_law_strewn" "_law_strewn" (defArgs S_strewn) (defBody S_strewn) (defScope S_strewn) .none kV8 dc8 pm8 an8 cd8 ct8), sl8⟩)
    (c8 : PySem.W.codeIn K cd8 "_law_strewn" = true)
    (k8 : PySem.W.keepIn K (.ref f8) = true)
    (a9 : PySem.W.nsIn K mainGlobals "_law_souls" = some (some (.ref f9)))
    (l9 : K.lookup f9 = some ⟨oc9, od9, .func (PySem.W.fnOf "_law_souls" "_law_souls" (defArgs S_souls) (defBody S_souls) (defScope S_souls) .none kV9 dc9 pm9 an9 cd9 ct9), sl9⟩)
    (c9 : PySem.W.codeIn K cd9 "_law_souls" = true)
    (k9 : PySem.W.keepIn K (.ref f9) = true)
    (a10 : PySem.W.nsIn K mainGlobals "_law_crowd" = some (some (.ref f10)))
    (l10 : K.lookup f10 = some ⟨oc10, od10, .func (PySem.W.fnOf "_law_crowd" "_law_crowd" (defArgs S_crowd) (defBody S_crowd) (defScope S_crowd) .none kV10 dc10 pm10 an10 cd10 ct10), sl10⟩)
    (c10 : PySem.W.codeIn K cd10 "_law_crowd" = true)
    (k10 : PySem.W.keepIn K (.ref f10) = true)
    (a11 : PySem.W.nsIn K mainGlobals "_law_told" = some (some (.ref f11)))
    (l11 : K.lookup f11 = some ⟨oc11, od11, .func (PySem.W.fnOf "_law_told" "_law_told" (defArgs S_told) (defBody S_told) (defScope S_told) .none kV11 dc11 pm11 an11 cd11 ct11), sl11⟩)
    (c11 : PySem.W.codeIn K cd11 "_law_told" = true)
    (k11 : PySem.W.keepIn K (.ref f11) = true)
    (a12 : PySem.W.nsIn K mainGlobals "_law_due" = some (some (.ref f12)))
    (l12 : K.lookup f12 = some ⟨oc12, od12, .func (PySem.W.fnOf "_law_due" "_law_due" (defArgs S_due) (defBody S_due) (defScope S_due) .none kV12 dc12 pm12 an12 cd12 ct12), sl12⟩)
    (c12 : PySem.W.codeIn K cd12 "_law_due" = true)
    (k12 : PySem.W.keepIn K (.ref f12) = true)
    (a13 : PySem.W.nsIn K mainGlobals "_law_right" = some (some (.ref f13)))
    (l13 : K.lookup f13 = some ⟨oc13, od13, .func (PySem.W.fnOf "_law_right" "_law_right" (defArgs S_right) (defBody S_right) (defScope S_right) .none kV13 dc13 pm13 an13 cd13 ct13), sl13⟩)
    (c13 : PySem.W.codeIn K cd13 "_law_right" = true)
    (k13 : PySem.W.keepIn K (.ref f13) = true)
    (a14 : PySem.W.nsIn K mainGlobals "law" = some (some (.ref f14)))
    (l14 : K.lookup f14 = some ⟨oc14, od14, .func (PySem.W.fnOf "law" "law" (defArgs S_law) (defBody S_law) (defScope S_law) .none kV14 dc14 pm14 an14 cd14 ct14), sl14⟩)
    (c14 : PySem.W.codeIn K cd14 "law" = true)
    (k14 : PySem.W.keepIn K (.ref f14) = true)
    (gKnown : PySem.W.nsIn K mainGlobals "Known" = some (some (.ref CKnown)))
    (xKnown : K.lookup CKnown = some (excClassObj nmKnown qKnown CKnown NKnown bsKnown tlValueError true snKnown sbKnown abKnown coKnown ddKnown w0Known w1Known w2Known w3Known w5Known "ValueError.__new__"))
    (saKnown : PySem.W.findIn K (.ref CKnown) "__setattr__" = some (some (.builtin "object.__setattr__")))
    (gaKnown : PySem.W.findIn K (.ref CKnown) "__getattribute__" = some (some (.builtin "BaseException.__getattribute__")))
    (ggKnown : PySem.W.findIn K (.ref CKnown) "__getattr__" = some none)
    (kCKnown : PySem.W.keepIn K (.ref CKnown) = true)
    (caKnown : PySem.W.findIn K (.ref CKnown) "__class__" = some (some (.builtin "object.__class__")))
    (tyKnown : PySem.W.typeIn K (.ref CKnown) = some (.type "type"))
    (iCKnown : PySem.W.findIn K (.ref CKnown) "__init__" = some (some (.ref iKnown)))
    (tIKnown : PySem.W.typeIn K (.ref iKnown) = some (.type "function"))
    (lIKnown : K.lookup iKnown = some ⟨ocKnown, odKnown, .func (PySem.W.fnOf "__init__" "Known.__init__" (defArgs S_Known) (defBody S_Known) (defScope S_Known) .none kVKnown dcKnown pmKnown anKnown cdKnown ctKnown), slKnown⟩)
    (cIKnown : PySem.W.codeIn K cdKnown "Known.__init__" = true)
    (kIKnown : PySem.W.keepIn K (.ref iKnown) = true)
    (noKnown : PySem.W.findIn K (.ref CKnown) "height" = some none)
    (gNoPerson : PySem.W.nsIn K mainGlobals "NoPerson" = some (some (.ref CNoPerson)))
    (xNoPerson : K.lookup CNoPerson = some (excClassObj nmNoPerson qNoPerson CNoPerson NNoPerson bsNoPerson tlLookupError true snNoPerson sbNoPerson abNoPerson coNoPerson ddNoPerson w0NoPerson w1NoPerson w2NoPerson w3NoPerson w5NoPerson "LookupError.__new__"))
    (saNoPerson : PySem.W.findIn K (.ref CNoPerson) "__setattr__" = some (some (.builtin "object.__setattr__")))
    (gaNoPerson : PySem.W.findIn K (.ref CNoPerson) "__getattribute__" = some (some (.builtin "BaseException.__getattribute__")))
    (ggNoPerson : PySem.W.findIn K (.ref CNoPerson) "__getattr__" = some none)
    (kCNoPerson : PySem.W.keepIn K (.ref CNoPerson) = true)
    (caNoPerson : PySem.W.findIn K (.ref CNoPerson) "__class__" = some (some (.builtin "object.__class__")))
    (tyNoPerson : PySem.W.typeIn K (.ref CNoPerson) = some (.type "type"))
    (iCNoPerson : PySem.W.findIn K (.ref CNoPerson) "__init__" = some (some (.ref iNoPerson)))
    (tINoPerson : PySem.W.typeIn K (.ref iNoPerson) = some (.type "function"))
    (lINoPerson : K.lookup iNoPerson = some ⟨ocNoPerson, odNoPerson, .func (PySem.W.fnOf "__init__" "NoPerson.__init__" (defArgs S_NoPerson) (defBody S_NoPerson) (defScope S_NoPerson) .none kVNoPerson dcNoPerson pmNoPerson anNoPerson cdNoPerson ctNoPerson), slNoPerson⟩)
    (cINoPerson : PySem.W.codeIn K cdNoPerson "NoPerson.__init__" = true)
    (kINoPerson : PySem.W.keepIn K (.ref iNoPerson) = true)
    (noNoPerson : PySem.W.findIn K (.ref CNoPerson) "height" = some none)
    (gNoPlace : PySem.W.nsIn K mainGlobals "NoPlace" = some (some (.ref CNoPlace)))
    (xNoPlace : K.lookup CNoPlace = some (excClassObj nmNoPlace qNoPlace CNoPlace NNoPlace bsNoPlace tlLookupError true snNoPlace sbNoPlace abNoPlace coNoPlace ddNoPlace w0NoPlace w1NoPlace w2NoPlace w3NoPlace w5NoPlace "LookupError.__new__"))
    (saNoPlace : PySem.W.findIn K (.ref CNoPlace) "__setattr__" = some (some (.builtin "object.__setattr__")))
    (gaNoPlace : PySem.W.findIn K (.ref CNoPlace) "__getattribute__" = some (some (.builtin "BaseException.__getattribute__")))
    (ggNoPlace : PySem.W.findIn K (.ref CNoPlace) "__getattr__" = some none)
    (kCNoPlace : PySem.W.keepIn K (.ref CNoPlace) = true)
    (caNoPlace : PySem.W.findIn K (.ref CNoPlace) "__class__" = some (some (.builtin "object.__class__")))
    (tyNoPlace : PySem.W.typeIn K (.ref CNoPlace) = some (.type "type"))
    (iCNoPlace : PySem.W.findIn K (.ref CNoPlace) "__init__" = some (some (.ref iNoPlace)))
    (tINoPlace : PySem.W.typeIn K (.ref iNoPlace) = some (.type "function"))
    (lINoPlace : K.lookup iNoPlace = some ⟨ocNoPlace, odNoPlace, .func (PySem.W.fnOf "__init__" "NoPlace.__init__" (defArgs S_NoPlace) (defBody S_NoPlace) (defScope S_NoPlace) .none kVNoPlace dcNoPlace pmNoPlace anNoPlace cdNoPlace ctNoPlace), slNoPlace⟩)
    (cINoPlace : PySem.W.codeIn K cdNoPlace "NoPlace.__init__" = true)
    (kINoPlace : PySem.W.keepIn K (.ref iNoPlace) = true)
    (noNoPlace : PySem.W.findIn K (.ref CNoPlace) "place" = some none)
    (gNoNumber : PySem.W.nsIn K mainGlobals "NoNumber" = some (some (.ref CNoNumber)))
    (xNoNumber : K.lookup CNoNumber = some (excClassObj nmNoNumber qNoNumber CNoNumber NNoNumber bsNoNumber tlLookupError true snNoNumber sbNoNumber abNoNumber coNoNumber ddNoNumber w0NoNumber w1NoNumber w2NoNumber w3NoNumber w5NoNumber "LookupError.__new__"))
    (saNoNumber : PySem.W.findIn K (.ref CNoNumber) "__setattr__" = some (some (.builtin "object.__setattr__")))
    (gaNoNumber : PySem.W.findIn K (.ref CNoNumber) "__getattribute__" = some (some (.builtin "BaseException.__getattribute__")))
    (ggNoNumber : PySem.W.findIn K (.ref CNoNumber) "__getattr__" = some none)
    (kCNoNumber : PySem.W.keepIn K (.ref CNoNumber) = true)
    (caNoNumber : PySem.W.findIn K (.ref CNoNumber) "__class__" = some (some (.builtin "object.__class__")))
    (tyNoNumber : PySem.W.typeIn K (.ref CNoNumber) = some (.type "type"))
    (iCNoNumber : PySem.W.findIn K (.ref CNoNumber) "__init__" = some (some (.ref iNoNumber)))
    (tINoNumber : PySem.W.typeIn K (.ref iNoNumber) = some (.type "function"))
    (lINoNumber : K.lookup iNoNumber = some ⟨ocNoNumber, odNoNumber, .func (PySem.W.fnOf "__init__" "NoNumber.__init__" (defArgs S_NoNumber) (defBody S_NoNumber) (defScope S_NoNumber) .none kVNoNumber dcNoNumber pmNoNumber anNoNumber cdNoNumber ctNoNumber), slNoNumber⟩)
    (cINoNumber : PySem.W.codeIn K cdNoNumber "NoNumber.__init__" = true)
    (kINoNumber : PySem.W.keepIn K (.ref iNoNumber) = true)
    (noNoNumber : PySem.W.findIn K (.ref CNoNumber) "number" = some none)
    (hsp : PySem.W.specialIn K (.builtin "object.__class__") "__get__" = some (some (.builtin "getset_descriptor.__get__")))
    (htk : PySem.W.takesIn K (.builtin "object.__class__") = some true)
    (zisinstance : PySem.W.nsIn K mainGlobals "isinstance" = some none)
    (zlist : PySem.W.nsIn K mainGlobals "list" = some none)
    (ztuple : PySem.W.nsIn K mainGlobals "tuple" = some none)
    (zlen : PySem.W.nsIn K mainGlobals "len" = some none)
    (zall : PySem.W.nsIn K mainGlobals "all" = some none)
    (zany : PySem.W.nsIn K mainGlobals "any" = some none)
    (zzip : PySem.W.nsIn K mainGlobals "zip" = some none)
    (zbool : PySem.W.nsIn K mainGlobals "bool" = some none)
    (zstr : PySem.W.nsIn K mainGlobals "str" = some none)
    (zint : PySem.W.nsIn K mainGlobals "int" = some none)
    (zabs : PySem.W.nsIn K mainGlobals "abs" = some none)
    (zmax : PySem.W.nsIn K mainGlobals "max" = some none)
    (zmin : PySem.W.nsIn K mainGlobals "min" = some none)
    (zrange : PySem.W.nsIn K mainGlobals "range" = some none)
    (zsorted : PySem.W.nsIn K mainGlobals "sorted" = some none)
    (zenumerate : PySem.W.nsIn K mainGlobals "enumerate" = some none)
    (zset : PySem.W.nsIn K mainGlobals "set" = some none)
    (zsum : PySem.W.nsIn K mainGlobals "sum" = some none)
    (zreversed : PySem.W.nsIn K mainGlobals "reversed" = some none)
    (zrepr : PySem.W.nsIn K mainGlobals "repr" = some none)
    (zdict : PySem.W.nsIn K mainGlobals "dict" = some none)
    (zValueError : PySem.W.nsIn K mainGlobals "ValueError" = some none)
    (zLookupError : PySem.W.nsIn K mainGlobals "LookupError" = some none)
    (zRuntimeError : PySem.W.nsIn K mainGlobals "RuntimeError" = some none)
    (zOverflowError : PySem.W.nsIn K mainGlobals "OverflowError" = some none)
    (zIndexError : PySem.W.nsIn K mainGlobals "IndexError" = some none)
    (zKeyError : PySem.W.nsIn K mainGlobals "KeyError" = some none)
    (zNotImplementedError : PySem.W.nsIn K mainGlobals "NotImplementedError" = some none)
    (nd : [CKnown, CNoNumber, CNoPerson, CNoPlace].Nodup) :
    ∃ fd : FuncData, (∀ (s : Shared) (v : Value), BindsTo s fd ⟨[v], []⟩ [("_law_script", v)]) ∧ ∀ base : Heap, K.In base → base.Ns mainGlobals mg → FnOk l.prog w K mg base CX0 7 fa fd ["_law_script"] (spLaw K) := by
  have e := hfa.symm.trans (PySem.W.mg_of X G a14)
  cases e
  have F0 := fun_mk (st := S_check_person) l0 c0 k0
  have m0 := PySem.W.mg_of X G a0
  have F1 := fun_mk (st := S_with_person) l1 c1 k1
  have m1 := PySem.W.mg_of X G a1
  have F2 := fun_mk (st := S_without) l2 c2 k2
  have m2 := PySem.W.mg_of X G a2
  have F3 := fun_mk (st := S_cell_at) l3 c3 k3
  have m3 := PySem.W.mg_of X G a3
  have F4 := fun_mk (st := S_box) l4 c4 k4
  have m4 := PySem.W.mg_of X G a4
  have F5 := fun_mk (st := S_take) l5 c5 k5
  have m5 := PySem.W.mg_of X G a5
  have F6 := fun_mk (st := S_of) l6 c6 k6
  have m6 := PySem.W.mg_of X G a6
  have F7 := fun_mk (st := S_same) l7 c7 k7
  have m7 := PySem.W.mg_of X G a7
  have F8 := fun_mk (st := S_strewn) l8 c8 k8
  have m8 := PySem.W.mg_of X G a8
  have F9 := fun_mk (st := S_souls) l9 c9 k9
  have m9 := PySem.W.mg_of X G a9
  have F10 := fun_mk (st := S_crowd) l10 c10 k10
  have m10 := PySem.W.mg_of X G a10
  have F11 := fun_mk (st := S_told) l11 c11 k11
  have m11 := PySem.W.mg_of X G a11
  have F12 := fun_mk (st := S_due) l12 c12 k12
  have m12 := PySem.W.mg_of X G a12
  have F13 := fun_mk (st := S_right) l13 c13 k13
  have m13 := PySem.W.mg_of X G a13
  have F14 := fun_mk (st := S_law) l14 c14 k14
  have m14 := PySem.W.mg_of X G a14
  have GKnown := fun_mk (st := S_Known) lIKnown cIKnown kIKnown
  have XKnown : Cl K CKnown 0 := cl_mk 0 xKnown saKnown gaKnown ggKnown kCKnown caKnown tyKnown hsp htk
  have GNoPerson := fun_mk (st := S_NoPerson) lINoPerson cINoPerson kINoPerson
  have XNoPerson : Cl K CNoPerson 1 := cl_mk 1 xNoPerson saNoPerson gaNoPerson ggNoPerson kCNoPerson caNoPerson tyNoPerson hsp htk
  have GNoPlace := fun_mk (st := S_NoPlace) lINoPlace cINoPlace kINoPlace
  have XNoPlace : Cl K CNoPlace 1 := cl_mk 1 xNoPlace saNoPlace gaNoPlace ggNoPlace kCNoPlace caNoPlace tyNoPlace hsp htk
  have GNoNumber := fun_mk (st := S_NoNumber) lINoNumber cINoNumber kINoNumber
  have XNoNumber : Cl K CNoNumber 1 := cl_mk 1 xNoNumber saNoNumber gaNoNumber ggNoNumber kCNoNumber caNoNumber tyNoNumber hsp htk
  have B : Blt mg := ⟨PySem.W.mg_none_of X G zisinstance, PySem.W.mg_none_of X G zlist, PySem.W.mg_none_of X G ztuple, PySem.W.mg_none_of X G zlen, PySem.W.mg_none_of X G zall, PySem.W.mg_none_of X G zany, PySem.W.mg_none_of X G zzip, PySem.W.mg_none_of X G zbool, PySem.W.mg_none_of X G zstr, PySem.W.mg_none_of X G zint, PySem.W.mg_none_of X G zabs, PySem.W.mg_none_of X G zmax, PySem.W.mg_none_of X G zmin, PySem.W.mg_none_of X G zrange, PySem.W.mg_none_of X G zsorted, PySem.W.mg_none_of X G zenumerate, PySem.W.mg_none_of X G zset, PySem.W.mg_none_of X G zsum, PySem.W.mg_none_of X G zreversed, PySem.W.mg_none_of X G zrepr, PySem.W.mg_none_of X G zdict, PySem.W.mg_none_of X G zValueError, PySem.W.mg_none_of X G zLookupError, PySem.W.mg_none_of X G zRuntimeError, PySem.W.mg_none_of X G zOverflowError, PySem.W.mg_none_of X G zIndexError, PySem.W.mg_none_of X G zKeyError, PySem.W.mg_none_of X G zNotImplementedError⟩
  have b0 := F0.binds (ps := ["row", "height"]) fun _ _ _ _ _ _ us hl => match us, hl with | [_, _], _ => rfl
  have b1 := F1.binds (ps := ["row", "place", "height"]) fun _ _ _ _ _ _ us hl => match us, hl with | [_, _, _], _ => rfl
  have b2 := F2.binds (ps := ["row", "height"]) fun _ _ _ _ _ _ us hl => match us, hl with | [_, _], _ => rfl
  have b3 := F3.binds (ps := ["_law_script", "_law_k"]) fun _ _ _ _ _ _ us hl => match us, hl with | [_, _], _ => rfl
  have b4 := F4.binds (ps := ["_law_script", "_law_k"]) fun _ _ _ _ _ _ us hl => match us, hl with | [_, _], _ => rfl
  have b5 := F5.binds (ps := ["_law_box_here", "_law_below"]) fun _ _ _ _ _ _ us hl => match us, hl with | [_, _], _ => rfl
  have b6 := F6.binds (ps := ["_law_box_here", "_law_some"]) fun _ _ _ _ _ _ us hl => match us, hl with | [_, _], _ => rfl
  have b7 := F7.binds (ps := ["_law_found", "_law_due_here"]) fun _ _ _ _ _ _ us hl => match us, hl with | [_, _], _ => rfl
  have b8 := F8.binds (ps := ["_law_box_here", "_law_some"]) fun _ _ _ _ _ _ us hl => match us, hl with | [_, _], _ => rfl
  have b9 := F9.binds (ps := ["_law_box_here", "_law_count"]) fun _ _ _ _ _ _ us hl => match us, hl with | [_, _], _ => rfl
  have b10 := F10.binds (ps := ["_law_box_here", "_law_most"]) fun _ _ _ _ _ _ us hl => match us, hl with | [_, _], _ => rfl
  have b11 := F11.binds (ps := ["_law_crowd_here", "_law_spot", "_law_soul"]) fun _ _ _ _ _ _ us hl => match us, hl with | [_, _, _], _ => rfl
  have b12 := F12.binds (ps := ["_law_crowd_here", "_law_spot", "_law_soul"]) fun _ _ _ _ _ _ us hl => match us, hl with | [_, _, _], _ => rfl
  have b13 := F13.binds (ps := ["_law_box_here"]) fun _ _ _ _ _ _ us hl => match us, hl with | [_], _ => rfl
  let c : Ad := ⟨CKnown, CNoPerson, CNoPlace, CNoNumber⟩
  have q2 := kbn_perm (ps := P_without) F2 ["height", "row"] [1, 0] fun _ _ _ _ _ _ ws hl => match ws, hl with | [_, _], _ => rfl
  have q1 := kbn_perm (ps := P_with_person) F1 ["height", "place", "row"] [2, 1, 0] fun _ _ _ _ _ _ ws hl => match ws, hl with | [_, _, _], _ => rfl
  refine ⟨PySem.W.fnOf "law" "law" (defArgs S_law) (defBody S_law) (defScope S_law) .none kV14 dc14 pm14 an14 cd14 ct14, fun s v => .of_eq rfl, fun base _ _ => ?_⟩
  have GC := ok_cell (P := l.prog) (w := w) (mg := mg) (base := base) F3 B.len
  have GB := ok_box (P := l.prog) (w := w) (mg := mg) (base := base) F4 GC b3 F3.kp m3 B.abs B.int
  have GT := ok_take (P := l.prog) (w := w) (mg := mg) (base := base) F5 b5 m5
  have GS := ok_same (P := l.prog) (w := w) (mg := mg) (base := base) F7 b7 m7 B 3
  have GO := ok_of (P := l.prog) (w := w) (mg := mg) (base := base) F6 GT b5 F5.kp m5 B
  have GN := ok_strewn (P := l.prog) (w := w) (mg := mg) (base := base) F8 GT b5 F5.kp m5 B
  have GU := ok_souls (P := l.prog) (w := w) (mg := mg) (base := base) F9 GT b5 F5.kp m5 GO b6 F6.kp m6 B
  have GD := ok_crowd (P := l.prog) (w := w) (mg := mg) (base := base) F10 GT b5 F5.kp m5 GU b9 F9.kp m9 GN b8 F8.kp m8 B
  have M : Mks l.prog w K mg base c := by
    refine ⟨?_, ?_, ?_, ?_⟩
    · exact ⟨XKnown, PySem.W.mg_of X G gKnown, noKnown, iKnown, _, iCKnown, tIKnown, iniKnown GKnown, kbn_of GKnown 2 [] (fun _ _ _ _ _ _ us ws h1 h2 => match us, ws, h1, h2 with | [_, _], [], _, _ => rfl), kbn_of GKnown 1 ["height"] (fun _ _ _ _ _ _ us ws h1 h2 => match us, ws, h1, h2 with | [_], [_], _, _ => rfl)⟩
    · exact ⟨XNoPerson, PySem.W.mg_of X G gNoPerson, noNoPerson, iNoPerson, _, iCNoPerson, tINoPerson, iniNoPerson GNoPerson, kbn_of GNoPerson 2 [] (fun _ _ _ _ _ _ us ws h1 h2 => match us, ws, h1, h2 with | [_, _], [], _, _ => rfl), kbn_of GNoPerson 1 ["height"] (fun _ _ _ _ _ _ us ws h1 h2 => match us, ws, h1, h2 with | [_], [_], _, _ => rfl)⟩
    · exact ⟨XNoPlace, PySem.W.mg_of X G gNoPlace, noNoPlace, iNoPlace, _, iCNoPlace, tINoPlace, iniNoPlace GNoPlace, kbn_of GNoPlace 2 [] (fun _ _ _ _ _ _ us ws h1 h2 => match us, ws, h1, h2 with | [_, _], [], _, _ => rfl), kbn_of GNoPlace 1 ["place"] (fun _ _ _ _ _ _ us ws h1 h2 => match us, ws, h1, h2 with | [_], [_], _, _ => rfl)⟩
    · exact ⟨XNoNumber, PySem.W.mg_of X G gNoNumber, noNoNumber, iNoNumber, _, iCNoNumber, tINoNumber, iniNoNumber GNoNumber, kbn_of GNoNumber 2 [] (fun _ _ _ _ _ _ us ws h1 h2 => match us, ws, h1, h2 with | [_, _], [], _, _ => rfl), kbn_of GNoNumber 1 ["number"] (fun _ _ _ _ _ _ us ws h1 h2 => match us, ws, h1, h2 with | [_], [_], _, _ => rfl)⟩
  have GP := ok_with (P := l.prog) (w := w) (mg := mg) (base := base) F1 (c := c) B M
  have GK := ok_chk (P := l.prog) (w := w) (mg := mg) (base := base) F0 (c := c) B M
  have GX := ok_wout (P := l.prog) (w := w) (mg := mg) (base := base) F2 GK b0 F0.kp m0 (c := c) B M
  have GL := ok_told (P := l.prog) (w := w) (mg := mg) (base := base) F11 GX F2.kp m2 q2 GP F1.kp m1 q1 B M nd
  have GE := ok_due (P := l.prog) (w := w) (mg := mg) (base := base) F12 B
  have GR := ok_right (P := l.prog) (w := w) (mg := mg) (base := base) F13 GD b10 F10.kp m10 GT b5 F5.kp m5 GE b12 F12.kp m12 GL b11 F11.kp m11 GS b7 F7.kp m7 GX b2 F2.kp m2 B
  exact ok_law F14 GB b4 F4.kp m4 GR b13 F13.kp m13 B
theorem walk {l : PySem.W.OpenLaw} {q : Program} {loose : List Str} {XP : (Str → Option Value) → Heap → Prop} {YP : World → Heap → Prop} {d : DefRec} {K : Params → PySem.W.Frag} (hn : l.most = some 63) (hdf : d.params.defaults = [])
    (hY : ∀ (w : World) (h : Heap), YP w h → (K w.params).In h)
    (F : ∀ (w : World) (mg : Str → Option Value) (fa : Addr) (h : Heap), (K w.params).In h → h.Ns mainGlobals mg → mg d.name = some (.ref fa) →
      ∃ fd : FuncData, (∀ (s : Shared) (u : Value), BindsTo s fd ⟨[u], []⟩ [("_law_script", u)]) ∧ ∀ base : Heap, (K w.params).In base → base.Ns mainGlobals mg → FnOk l.prog w (K w.params) mg base CX0 7 fa fd ["_law_script"] (spLaw (K w.params))) :
    PySem.W.WalkO q loose XP YP l.row.toRowW d [] (fun f vs => PySem.call f vs) :=
  L2.walk_of (n := 63) (k := 7) (x := "_law_script") (CX := fun _ => CX0) (sp := fun w => spLaw (K w.params)) hn (by decide) hdf ⟨rfl, by decide, by decide⟩ hY F (fun _ _ a ns hl _ hS => ⟨a, ns, rfl, hS, hl, fun _ => rfl⟩) fun _ _ _ _ _ z => z
end Ov
open PySem PySem.W PyProof.Rows
set_option maxRecDepth 100000 in
set_option maxHeartbeats 0 in
theorem PySem.Challenge.cw_overlooks_k02_people_who_come_and_go_holds : PySem.Challenge.rw_overlooks_k02_people_who_come_and_go.Holds := by
  w_on; o_law; k_head; (case hw => w_witness2)
  k_fill
  refine Ov.walk (l := PySem.Challenge.rw_overlooks_k02_people_who_come_and_go) rfl rfl (fun w h Y => PySem.W.kIn_of Y) ?F
  case F =>
    intro w mg fa h KX G hmg
    refine' Ov.all_mk KX G hmg ?a0 ?l0 ?c0 ?k0 ?a1 ?l1 ?c1 ?k1 ?a2 ?l2 ?c2 ?k2 ?a3 ?l3 ?c3 ?k3 ?a4 ?l4 ?c4 ?k4 ?a5 ?l5 ?c5 ?k5 ?a6 ?l6 ?c6 ?k6 ?a7 ?l7 ?c7 ?k7 ?a8 ?l8 ?c8 ?k8 ?a9 ?l9 ?c9 ?k9 ?a10 ?l10 ?c10 ?k10 ?a11 ?l11 ?c11 ?k11 ?a12 ?l12 ?c12 ?k12 ?a13 ?l13 ?c13 ?k13 ?a14 ?l14 ?c14 ?k14 ?gKnown ?xKnown ?saKnown ?gaKnown ?ggKnown ?kCKnown ?caKnown ?tyKnown ?iCKnown ?tIKnown ?lIKnown ?cIKnown ?kIKnown ?noKnown ?gNoPerson ?xNoPerson ?saNoPerson ?gaNoPerson ?ggNoPerson ?kCNoPerson ?caNoPerson ?tyNoPerson ?iCNoPerson ?tINoPerson ?lINoPerson ?cINoPerson ?kINoPerson ?noNoPerson ?gNoPlace ?xNoPlace ?saNoPlace ?gaNoPlace ?ggNoPlace ?kCNoPlace ?caNoPlace ?tyNoPlace ?iCNoPlace ?tINoPlace ?lINoPlace ?cINoPlace ?kINoPlace ?noNoPlace ?gNoNumber ?xNoNumber ?saNoNumber ?gaNoNumber ?ggNoNumber ?kCNoNumber ?caNoNumber ?tyNoNumber ?iCNoNumber ?tINoNumber ?lINoNumber ?cINoNumber ?kINoNumber ?noNoNumber ?hsp ?htk ?zisinstance ?zlist ?ztuple ?zlen ?zall ?zany ?zzip ?zbool ?zstr ?zint ?zabs ?zmax ?zmin ?zrange ?zsorted ?zenumerate ?zset ?zsum ?zreversed ?zrepr ?zdict ?zValueError ?zLookupError ?zRuntimeError ?zOverflowError ?zIndexError ?zKeyError ?zNotImplementedError ?nd
    (case a0 => k_is)
    (case l0 => k_is)
    (case c0 => k_is)
    (case k0 => k_is)
    (case a1 => k_is)
    (case l1 => k_is)
    (case c1 => k_is)
    (case k1 => k_is)
    (case a2 => k_is)
    (case l2 => k_is)
    (case c2 => k_is)
    (case k2 => k_is)
    (case a3 => k_is)
    (case l3 => k_is)
    (case c3 => k_is)
    (case k3 => k_is)
    (case a4 => k_is)
    (case l4 => k_is)
    (case c4 => k_is)
    (case k4 => k_is)
    (case a5 => k_is)
    (case l5 => k_is)
    (case c5 => k_is)
    (case k5 => k_is)
    (case a6 => k_is)
    (case l6 => k_is)
    (case c6 => k_is)
    (case k6 => k_is)
    (case a7 => k_is)
    (case l7 => k_is)
    (case c7 => k_is)
    (case k7 => k_is)
    (case a8 => k_is)
    (case l8 => k_is)
    (case c8 => k_is)
    (case k8 => k_is)
    (case a9 => k_is)
    (case l9 => k_is)
    (case c9 => k_is)
    (case k9 => k_is)
    (case a10 => k_is)
    (case l10 => k_is)
    (case c10 => k_is)
    (case k10 => k_is)
    (case a11 => k_is)
    (case l11 => k_is)
    (case c11 => k_is)
    (case k11 => k_is)
    (case a12 => k_is)
    (case l12 => k_is)
    (case c12 => k_is)
    (case k12 => k_is)
    (case a13 => k_is)
    (case l13 => k_is)
    (case c13 => k_is)
    (case k13 => k_is)
    (case a14 => k_is)
    (case l14 => k_is)
    (case c14 => k_is)
    (case k14 => k_is)
    (case gKnown => k_is)
    (case xKnown => k_is)
    (case saKnown => k_is)
    (case gaKnown => k_is)
    (case ggKnown => k_is)
    (case kCKnown => k_is)
    (case caKnown => k_is)
    (case tyKnown => k_is)
    (case iCKnown => k_is)
    (case tIKnown => k_is)
    (case lIKnown => k_is)
    (case cIKnown => k_is)
    (case kIKnown => k_is)
    (case noKnown => k_is)
    (case gNoPerson => k_is)
    (case xNoPerson => k_is)
    (case saNoPerson => k_is)
    (case gaNoPerson => k_is)
    (case ggNoPerson => k_is)
    (case kCNoPerson => k_is)
    (case caNoPerson => k_is)
    (case tyNoPerson => k_is)
    (case iCNoPerson => k_is)
    (case tINoPerson => k_is)
    (case lINoPerson => k_is)
    (case cINoPerson => k_is)
    (case kINoPerson => k_is)
    (case noNoPerson => k_is)
    (case gNoPlace => k_is)
    (case xNoPlace => k_is)
    (case saNoPlace => k_is)
    (case gaNoPlace => k_is)
    (case ggNoPlace => k_is)
    (case kCNoPlace => k_is)
    (case caNoPlace => k_is)
    (case tyNoPlace => k_is)
    (case iCNoPlace => k_is)
    (case tINoPlace => k_is)
    (case lINoPlace => k_is)
    (case cINoPlace => k_is)
    (case kINoPlace => k_is)
    (case noNoPlace => k_is)
    (case gNoNumber => k_is)
    (case xNoNumber => k_is)
    (case saNoNumber => k_is)
    (case gaNoNumber => k_is)
    (case ggNoNumber => k_is)
    (case kCNoNumber => k_is)
    (case caNoNumber => k_is)
    (case tyNoNumber => k_is)
    (case iCNoNumber => k_is)
    (case tINoNumber => k_is)
    (case lINoNumber => k_is)
    (case cINoNumber => k_is)
    (case kINoNumber => k_is)
    (case noNoNumber => k_is)
    (case hsp => k_is)
    (case htk => k_is)
    (case zisinstance => k_is)
    (case zlist => k_is)
    (case ztuple => k_is)
    (case zlen => k_is)
    (case zall => k_is)
    (case zany => k_is)
    (case zzip => k_is)
    (case zbool => k_is)
    (case zstr => k_is)
    (case zint => k_is)
    (case zabs => k_is)
    (case zmax => k_is)
    (case zmin => k_is)
    (case zrange => k_is)
    (case zsorted => k_is)
    (case zenumerate => k_is)
    (case zset => k_is)
    (case zsum => k_is)
    (case zreversed => k_is)
    (case zrepr => k_is)
    (case zdict => k_is)
    (case zValueError => k_is)
    (case zLookupError => k_is)
    (case zRuntimeError => k_is)
    (case zOverflowError => k_is)
    (case zIndexError => k_is)
    (case zKeyError => k_is)
    (case zNotImplementedError => k_is)
    (case nd => decide)
