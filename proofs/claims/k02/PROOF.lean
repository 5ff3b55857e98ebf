import PyProof.Rows.All
import Wide.All
import OpenK.AllK
import Wide.FinOn
import KE.KExcIs
import HandS.ForMost
import HandS.ExcInit
import HandS.ExcValue
import HandS.IsInst
import HandS.Defaults
import HandS.ExcField
import PyProof.ReprRoads
import PyProof.StrLawsRepr
import PyProof.FitsInt
import HandS.MakeKw
import HandS.Head2
import HandS.HeadEnd
import HandS.HeadHook2
import HandS.TryMany
import HandS.Exc
import HandS.More
import HandS.Wide
import HandS.TupAny
import HandS.WideBits
import HandS.Style
import HandS.Zip
import HandS.Walk
import HandS.Iter
import HandS.Conv
import HandS.StrMore
import HandS.WrittenGet
import HandS.TupLe
import HandS.HeadHook3
import PySem.Challenge.RW_withinbooks_k02_whole_effects_and_worth
set_option Elab.async false
set_option linter.all false
set_option maxRecDepth 100000
set_option maxHeartbeats 4000000
namespace EV
open PySem PySem.W PySem.Calls PySem.HandSPX
/-- the class object of an own class of errors over ValueError's chain -/
structure Above (h : Heap) (C : Addr) : Prop where
  ex : ∃ (nm qn : Str) (N : Addr) (bs bm : List Value) (hd : Bool) (sn : List Str) (sub : List Value) (ab : Bool) (col : Option Bool) (dd : Option Addr) (k0 k1 k2 k3 k5 : Option Value),
    h.get? C = some (excClassObj nm qn C N bs bm hd sn sub ab col dd k0 k1 k2 k3 k5 "ValueError.__new__") ∧ ∀ T : String, bm.contains (.type T) = veTail.contains (.type T)
section
variable {M : Model} {prog : Program} {w : World} {A : Around} {E : Value → Shared → Prop} {R : Result → Shared → Prop}
variable {h : Heap} {g : Array GenState} {d : Drawn} {t : Nat} {os : OsState} {C fI : Addr} {us : List Value} {kw : List (Str × Value)}
abbrev two (h : Heap) (C : Addr) (us : List Value) : Heap := (h.push (W.kdv_tup us)).push (excO C h.objs.size)
theorem new_ok {Q : Unit → Shared → Prop} (c : Above h C) (hq : Q () ⟨h, g, d, t, os⟩) :
    wpAny M A (checkBuiltinCall "ValueError.__new__" ⟨.ref C :: us, kw⟩) Q E ⟨h, g, d, t, os⟩ := by
  obtain ⟨nm, qn, N, bs, bm, hd, sn, sub, ab, col, dd, k0, k1, k2, k3, k5, hC, hT⟩ := c.ex
  have F := F.excBase_ValueError
  have in_ : (Value.ref C :: bm).contains (.type "ValueError") = true := by
    rw [List.contains_cons, hT, F.hasB, Bool.or_true]
  have ns := F.noStar
  simp only [checkBuiltinCall, F.newKind, F.newSplit, F.newRow]
  repeat (first
    | refine wpAny_loadPart_at hC ?_
    | (refine wpAny_isSubtype_exc hC ?_; rw [in_])
    | refine wpAny_staticBase_exc hC ?_
    | refine wpAny_madeBy_exc hC ?_
    | simp only [bne_self_eq_false, Bool.false_eq_true, if_false]
    | wp_step)
  exact hq
theorem new_does (c : Above h C) (hu : us.length ≤ sizeLine) (hq : R (.ok (.ret (.ref (h.objs.size + 1)))) ⟨two h C us, g, d, t, os⟩) :
    codeAny (model prog w) A (.builtin "ValueError.__new__" ⟨.ref C :: us, kw⟩) R ⟨h, g, d, t, os⟩ := by
  obtain ⟨nm, qn, N, bs, bm, hd, sn, sub, ab, col, dd, k0, k1, k2, k3, k5, hC, hT⟩ := c.ex
  have F := F.excBase_ValueError
  have he := F.ends
  have cB : (Value.ref C :: bm).contains (.type "ValueError") = true := by
    rw [List.contains_cons, hT, F.hasB, Bool.or_true]
  have cA : (Value.ref C :: bm).contains (.type "AttributeError") = false := by
    rw [List.contains_cons, hT, F.noAttr]; rfl
  have cN : (Value.ref C :: bm).contains (.type "NameError") = false := by
    rw [List.contains_cons, hT, F.noName]; rfl
  refine codeAny_builtinAt F.entry ?_
  unfold Builtin.«BaseException.__new__»
  refine wpAt_bind ?_
  show wpAt _ _ _ (stack >>= _) _ _ _
  refine wpAt_bind (wpAt_stack fun p below => wpAt_of_wpAny ?_)
  wp_walk
  refine wpAt_of_wpAny ?_
  rw [F.owner]
  repeat (first
    | with_reducible refine wpAny_madeHere_exc F.canon hC ?_
    | with_reducible refine wpAny_loadPart_at hC ?_
    | (with_reducible refine wpAny_isSubtype_exc hC ?_; first | rw [cB] | rw [cA] | rw [cN])
    | wp_step)
  show R _ _
  rw [Heap.size_push]
  exact hq
theorem type_does {Q : Fin → Shared → Prop} (c : Above h C) (hi : W.Looks (model prog w) h (typeLookup (.ref C) "__init__") (some (.ref fI)))
    (hb : ∀ self, W.Looks (model prog w) h (bindSpecial (.ref fI) self) (.ref fI, [self])) (hu : us.length ≤ sizeLine)
    (hq : codeAny (model prog w) A (.call (.ref fI) ⟨.ref (h.objs.size + 1) :: us, kw⟩)
      (fun r s' => match r with
        | .ok (.ret v) => v = .none ∧ Q (.done (.ret (.ref (h.objs.size + 1)))) s'
        | .ok _ => False
        | .error e => E e s') ⟨two h C us, g, d, t, os⟩) :
    wpAny (model prog w) A (Builtin.«type.__call__» ⟨.ref C :: us, kw⟩) Q E ⟨h, g, d, t, os⟩ := by
  obtain ⟨nm, qn, N, bs, bm, hd, sn, sub, ab, col, dd, k0, k1, k2, k3, k5, hC, hT⟩ := id c.ex
  have F := F.excBase_ValueError
  repeat (first
    | with_reducible refine wpAny_loadPart_at hC ?_
    | with_reducible refine wpAny_madeBy_exc hC ?_
    | wp_step)
  refine codeAny_call_builtin_code (Code.quiet_builtin _ F.quiet) (new_ok c ?_)
  refine new_does c hu ?_
  show wpAny _ _ _ _ _ _
  have k : ∀ b o, h.get? b = some o → (two h C us).get? b = some o := fun b o e => Heap.get?_push_of_some _ (Heap.get?_push_of_some _ e)
  have hC1 := k _ _ hC
  have hget : (two h C us).get? (h.objs.size + 1) = some (excO C h.objs.size) := by heap_get
  have cC : (Value.ref C :: bm).contains (.ref C) = true := by simp
  have i1 := hi.keeps k
  have b1 := (hb (.ref (h.objs.size + 1))).keeps k
  unfold isInstance
  repeat (first
    | with_reducible refine wpAny_loadPart_at hget ?_
    | (with_reducible refine wpAny_isSubtype_exc hC1 ?_; rw [cC])
    | wp_step)
  show wpAny _ _ (typeLookup (.ref C) _) _ _ _
  refine i1.at ?_
  refine wpAny_holding (wpAny_bind (b1.at ?_))
  refine wpAny_bind (wpAny_call (codeAny_mono hq fun r s' z => ?_))
  rcases r with e | (v | _ | _ | _) <;> first | exact z | exact z.elim | skip
  obtain ⟨rfl, z⟩ := z
  first
    | exact wpAny_pure (wpAny_pure z)
    | (wp_walk; exact z)
theorem call_does (c : Above h C) (hi : W.Looks (model prog w) h (typeLookup (.ref C) "__init__") (some (.ref fI)))
    (hb : ∀ self, W.Looks (model prog w) h (bindSpecial (.ref fI) self) (.ref fI, [self])) (hu : us.length ≤ sizeLine)
    (hq : codeAny (model prog w) (A.under (.builtin "type.__call__" ⟨.ref C :: us, kw⟩)) (.call (.ref fI) ⟨.ref (h.objs.size + 1) :: us, kw⟩)
      (W.InitBack (h.objs.size + 1) R) ⟨two h C us, g, d, t, os⟩) :
    codeAny (model prog w) A (.call (.ref C) ⟨us, kw⟩) R ⟨h, g, d, t, os⟩ := by
  obtain ⟨nm, qn, N, bs, bm, hd, sn, sub, ab, col, dd, k0, k1, k2, k3, k5, hC, hT⟩ := id c.ex
  have f1 := tc_lookup
  have f2 := tc_bind (.ref C)
  have hTy : (⟨h, g, d, t, os⟩ : Shared).TypeIs (.ref C) "type" := ⟨_, hC, rfl⟩
  refine codeAny_of_tree ?_
  show wpAny _ _ (callAny (.ref C) _) _ _ _
  repeat (any_goals (first | assumption | with_reducible refine wpAny_loadPart_at hC ?_ | wp_step))
  refine ⟨rfl, ?_⟩
  refine codeAny_call_builtin_at (Code.quiet_builtin _ (by decide +kernel)) entry_typeCall (wpAny_check_type_call_sub hC ?_)
  refine type_does c hi hb hu ?_
  refine codeAny_mono hq fun r s' z => ?_
  rcases r with e | (v | _ | _ | _) <;> exact z
end
end EV
set_option Elab.async false
set_option linter.all false
set_option maxRecDepth 100000
set_option maxHeartbeats 4000000
namespace L2.EV
open PySem PySem.Spec PyProof.Rows
/-- at a: an error of the class at C, made of v -/
def ErrO (H : Hp) (a C : Addr) (v : V) : Prop := ∃ dx, H a = some (exo a C (some dx)) ∧ H dx = some (exd dx [("value", v)])
theorem ErrO.same {H H' : Hp} {a C : Addr} {v : V} (e : ErrO H a C v) (s : Same H H') : ErrO H' a C v := by
  obtain ⟨dx, h1, h2⟩ := e
  exact ⟨dx, s _ _ h1, s _ _ h2⟩
/-- what __init__ promises -/
def spInit (C : Addr) : Sp := fun vs H Q _ => ∃ (a : Addr) (v : V), vs = [.ref a, v] ∧ H a = some (exo a C none) ∧
  ∀ dx, H dx = none → dx ≠ a → Q .non (upd (upd H dx (exd dx [("value", v)])) a (exo a C (some dx)))
/-- what the written part says of such a class -/
structure Err (K : PySem.W.Frag) (C fI : Addr) : Prop where
  ox : OexC K C
  noV : PySem.W.findIn K (.ref C) "value" = some none
  iC : PySem.W.findIn K (.ref C) "__init__" = some (some (.ref fI))
  tI : PySem.W.typeIn K (.ref fI) = some (.type "function")
  xf : XfC K C
theorem Err.up {K : PySem.W.Frag} {C fI : Addr} (e : Err K C fI) {h : Heap} (X : K.In h) : _root_.EV.Above h C := by
  obtain ⟨nm, q, N, bs, bm, sn, sub, ab, col, dd, k0, k1, k2, k3, k5, hC, hbm⟩ := e.ox.cls
  exact ⟨nm, q, N, bs, bm, true, sn, sub, ab, col, dd, k0, k1, k2, k3, k5, X _ _ hC, fun T => PySem.HandSPX.refsVE_contains T bm hbm⟩
section
variable {X : Cx} {pins : List (Addr × Obj)} {σ : St} {H H1 : Hp} {s s1 : Shared} {Q : VK} {C fI : Addr} {fd : FuncData} {k : Nat} {us ws : List Value} {kw : List (Str × Value)} {v : V}
theorem run_mkV (e : Err X.K C fI) (F1 : FnOk X.prog X.w X.K X.mg X.base CX0 k fI fd ["self", "value"] (spInit C)) (hr : Room (k + 1) X.A)
    (I1 : Inv X pins σ H1 s1) (hl : us.length ≤ sizeLine) (hb : ∀ (s : Shared) (self : Value), X.K.In s.heap → BindsTo s fd ⟨self :: us, kw⟩ ((["self", "value"] : List Str).zip (self :: ws)))
    (rw : Vals [v] ws) (q : ∀ a H', Same H1 H' → H1 a = none → ErrO H' a C v → Q (.ref a) H') :
    wpAny (model X.prog X.w) X.A (call (.ref C) us kw) (EP X pins σ Q) X.xe s1 := by
  obtain ⟨hp, g, dr, tk, os⟩ := s1
  have hsz : hp.objs.size ≤ hp.objs.size + 1 := Nat.le_succ _
  have hn : H1 (hp.objs.size + 1) = none := I1.hok.fresh hsz
  have kk : ∀ b o, hp.get? b = some o → (_root_.EV.two hp C us).get? b = some o := fun b o e => Heap.get?_push_of_some _ (Heap.get?_push_of_some _ e)
  have hget : (_root_.EV.two hp C us).get? (hp.objs.size + 1) = some (PySem.HandSPX.excO C hp.objs.size) := by heap_get
  have I2 : Inv X pins σ (upd H1 (hp.objs.size + 1) (exo (hp.objs.size + 1) C none)) ⟨_root_.EV.two hp C us, g, dr, tk, os⟩ :=
    I1.laid (t' := tk) (a := hp.objs.size + 1) (o := exo (hp.objs.size + 1) C none) (h' := _root_.EV.two hp C us) kk hsz (exo_ok hget)
  have r2 : Vals ([V.ref (hp.objs.size + 1), v]) (Value.ref (hp.objs.size + 1) :: ws) := .cons rfl rw
  refine wpAny_call (_root_.EV.call_does (e.up I1.kIn) (PySem.W.looks_findIn I1.kIn e.iC) (fun self => PySem.W.bind_fn I1.kIn self e.tI) hl
    (codeAny_mono (F1.run _ X.stack _ _ ⟨Value.ref (hp.objs.size + 1) :: us, kw⟩ (Value.ref (hp.objs.size + 1) :: ws) _ (fun u H2 => u = .non ∧ Q (.ref (hp.objs.size + 1)) H2) (fun _ _ _ => False)
      (hr.make C us kw) (I2.env0.make C us kw) (hb _ _ I2.kIn) r2 ⟨hp.objs.size + 1, v, rfl, upd_same, fun dx hd ne => ⟨rfl, q _ _ (fun b o e => ?_) hn ⟨dx, upd_same, ?_⟩⟩⟩) fun r s' hq' => ?_))
  · have hd1 : H1 dx = none := by
      rw [upd_ne ne] at hd
      exact hd
    rw [upd_ne (ne_of_none e hn), upd_ne (ne_of_none e hd1), upd_ne (ne_of_none e hn)]
    exact e
  · rw [upd_ne ne, upd_same]
  · cases r with
    | error er => exact hq'.elim
    | ok fl =>
      cases fl with
      | ret u =>
        obtain ⟨y, H', I3, rv, ev, q3⟩ := I2.after hq'
        subst ev
        exact ⟨rv, ⟨V.ref (hp.objs.size + 1), H', I3, rfl, q3⟩⟩
      | next => exact hq'.elim
      | brk => exact hq'.elim
      | cont => exact hq'.elim
end
/-- all that is asked of the class of the name x -/
structure Ck (P : Program) (w : World) (K : PySem.W.Frag) (mg : Str → Option Value) (base : Heap) (x : Str) (C : Addr) : Prop where
  mgx : mg x = some (.ref C)
  ex : ∃ (fI : Addr) (fd : FuncData), Err K C fI ∧ FnOk P w K mg base CX0 1 fI fd ["self", "value"] (spInit C) ∧
    (∀ (s : Shared) (self u : Value), K.In s.heap → BindsTo s fd ⟨[self, u], []⟩ ((["self", "value"] : List Str).zip [self, u])) ∧
    (∀ (s : Shared) (self : Value), K.In s.heap → BindsTo s fd ⟨[self], []⟩ ((["self", "value"] : List Str).zip [self, .none])) ∧
    (∀ (s : Shared) (self u : Value), K.In s.heap → BindsTo s fd ⟨[self], [("value", u)]⟩ ((["self", "value"] : List Str).zip [self, u]))
/-- C(..): a new error, made of v -/
def tMkV (C : Addr) (t : TE) : TE := fun σ H Q => t σ H fun v H1 => ∀ a H', Same H1 H' → H1 a = none → ErrO H' a C v → Q (.ref a) H'
section
variable {X : Cx} {C : Addr} {x : Str} {p pos kpos : Pos} {e : Expr} {te : TE}
theorem pe_mkV (c : Ck X.prog X.w X.K X.mg X.base x C) (hr : Room 2 X.A) (he : PE X e te) (hg : Gl X x := by rfl) (hdb : (x == ("__debug__" : Str)) = false := by decide)
    (hs : starEach [e] X.env = (false, eval e X.env) :: starEach [] X.env := by rfl) : PE X (.Call (.Name x p) [e] [] pos) (tMkV C te) := by
  obtain ⟨fI, fd, E, F, b1, b0, bk⟩ := c.ex
  refine ⟨fun pins s σ H Q I h => ?_⟩
  refine wpAny_Call_Name_kw (ld_glob I hg c.mgx ?_ hdb)
  refine PySem.W.callWith_K (h₀ := X.base) I.ok.mod.kin E.ox.kC ?_ hs (by rfl)
  rw [hs]
  show wpAny _ _ (spliced ((false, eval e X.env) :: backTo pos (starEach [] X.env))) _ _ s
  refine Calls.spliced_cons (thn (he.run pins s σ H _ I h) fun u s1 ⟨v, H1, I1, r1, q1⟩ => ?_)
  refine Calls.spliced_nil ⟨I1.kIn, ?_⟩
  exact run_mkV (us := [u]) (ws := [u]) E F hr I1 (by show 1 ≤ sizeLine; rw [sizeLine_eq]; omega) (fun s self X => b1 s self u X) (.cons r1 .nil) q1
theorem pe_mkV0 (c : Ck X.prog X.w X.K X.mg X.base x C) (hr : Room 2 X.A) (hg : Gl X x := by rfl) (hdb : (x == ("__debug__" : Str)) = false := by decide) :
    PE X (.Call (.Name x p) [] [] pos) (tMkV C (tC .non)) := by
  obtain ⟨fI, fd, E, F, b1, b0, bk⟩ := c.ex
  refine ⟨fun pins s σ H Q I h => ?_⟩
  refine wpAny_Call_Name_kw (ld_glob I hg c.mgx ?_ hdb)
  refine PySem.W.callWith_K0 I.kIn E.ox.kC ?_
  exact run_mkV (us := []) (ws := [.none]) (v := .non) E F hr I (Nat.zero_le _) (fun s self X => b0 s self X) (.cons rfl .nil) h
theorem pe_mkVK (c : Ck X.prog X.w X.K X.mg X.base x C) (hr : Room 2 X.A) (he : PE X e te) (hg : Gl X x := by rfl) (hdb : (x == ("__debug__" : Str)) = false := by decide)
    (hall : (backToKw pos (keywordEach [⟨some "value", e, kpos⟩] X.env)).all (·.1.isSome) = true := by rfl)
    (hks : (backToKw pos (keywordEach [⟨some "value", e, kpos⟩] X.env)).filterMap (·.1) = (["value"] : List Str) := by rfl)
    (hpl : ((backTo pos (starEach [] X.env)).any (·.1) || (backToKw pos (keywordEach [⟨some "value", e, kpos⟩] X.env)).any (·.1.isNone)) = false := by rfl) :
    PE X (.Call (.Name x p) [] [⟨some "value", e, kpos⟩] pos) (tMkV C te) := by
  obtain ⟨fI, fd, E, F, b1, b0, bk⟩ := c.ex
  refine ⟨fun pins s σ H Q I h => ?_⟩
  refine wpAny_Call_Name_kw (ld_glob I hg c.mgx ?_ hdb)
  refine PySem.W.callWith_KW0 (h₀ := X.base) I.ok.mod.kin E.ox.kC hall ?_ hpl
  refine thn ((pk_cons he pk_nil).run pos pins s σ H (fun vs H1 => match vs with
    | [v] => ∀ a H', Same H1 H' → H1 a = none → ErrO H' a C v → Q (.ref a) H'
    | _ => False) I h) fun us s2 ⟨zs, H2, I2, rz, q2⟩ => ⟨I2.kIn, ?_⟩
  cases rz with
  | nil => exact q2.elim
  | cons r1 r2 =>
    cases r2 with
    | nil =>
      rw [hks]
      exact run_mkV (us := []) (ws := [_]) E F hr I2 (Nat.zero_le _) (fun s self X => bk s self _ X) (.cons r1 .nil) q2
    | cons _ _ => exact q2.elim
end
end L2.EV
set_option Elab.async false
set_option linter.all false
set_option maxRecDepth 100000
set_option maxHeartbeats 4000000
namespace L2.EV
open PySem PySem.Spec PyProof.Rows
/-! ### the field of an error -/
def tValV (K : PySem.W.Frag) (te : TE) : TE := fun σ H Q => te σ H fun x H1 => ∃ (a C fI : Addr) (v : V), x = .ref a ∧ Err K C fI ∧ ErrO H1 a C v ∧ Q v H1
theorem pe_valV {X : Cx} {e : Expr} {te : TE} {pos : Pos} (he : PE X e te) (hb : attributeBase e "value" X.env (eval e X.env) = eval e X.env := by rfl) :
    PE X (.Attribute e "value" pos) (tValV X.K te) := by
  refine ⟨fun pins s σ H Q I h => ?_⟩
  refine attr_of hb (thn (he.run pins s σ H _ I h) fun u s1 hh => ?_)
  obtain ⟨x, H1, I1, rx, a, C, fI, v, ex, T, ⟨dx, ha, hd⟩, q⟩ := hh
  subst ex
  obtain rfl : u = Value.ref a := rx
  obtain ⟨t1, ho⟩ := exo_at I1.hok ha
  obtain ⟨mA, hns, hr⟩ := exd_at I1.hok hd
  obtain ⟨od, hod, hl⟩ := lookIn_ns hns
  have l : List.lookup ("value" : Str) [(("value" : Str), v)] = some v := by simp [List.lookup]
  obtain ⟨y, hy, ry⟩ := RelO.some_of (v := v) (o := mA "value") (by rw [← l]; exact hr "value")
  have J : PySem.W.InstAt s1.heap a { cls := .ref C, dict := some dx, data := .fields #[.ref t1, .none, .none, .none, .bool false, .none] } C (some od) := ⟨ho, rfl, rfl, hod⟩
  exact HandSPX.exc_get I1.kIn J T.xf.ga T.xf.gg T.xf.exC (PySem.W.findObj_own T.xf.hdC T.noV rfl (by rw [hl, hy])) (handed_of ry) ⟨v, H1, I1.tok _, ry, q⟩
/-! ### isinstance of an error -/
structure Asks (K : PySem.W.Frag) (C : Addr) : Prop where
  hcl : (PySem.W.clsIn K C).isSome = true
  hga : PySem.W.findIn K (.ref C) "__getattribute__" = some (some (.builtin "BaseException.__getattribute__"))
  hgt : PySem.W.findIn K (.ref C) "__getattr__" = some none
  hsub : PySem.W.subIn K (.ref C) (.type "BaseException") = some true
  ha : PySem.W.findIn K (.ref C) "__class__" = some (some (.builtin "object.__class__"))
  hn : PySem.W.specialIn K (.builtin "object.__class__") "__get__" = some (some (.builtin "getset_descriptor.__get__"))
  ht : PySem.W.takesIn K (.builtin "object.__class__") = some true
  hm : PySem.W.mroIn K C (.type "object") = some true
/-- at a: some error of the class at C -/
def IsErr (H : Hp) (a C : Addr) : Prop := (∃ v, ErrO H a C v) ∨ H a = some (ExO (.ref C) a)
def rIsV (K : PySem.W.Frag) : List V → Hp → VK → Prop := fun xs H Q => ∃ (a C : Addr) (c : V) (cv : Value) (b : Bool), xs = [.ref a, c] ∧ IsErr H a C ∧ ClsV c cv ∧ Asks K C ∧ PySem.W.kitOne K (.ref C) cv = some b ∧ Q (.bl b) H
theorem call_isV {X : Cx} : CallR X (.builtin "isinstance") (rIsV X.K) := by
  intro pins s σ H xs us Q I r h
  obtain ⟨a, C, c, cv, b, rfl, hE, hc, T, e, q⟩ := h
  obtain ⟨u1, u2, rfl, r1, r2⟩ := vals2 r
  have e2 := hc.eq r2
  subst e2
  cases (show u1 = Value.ref a from r1)
  rcases hE with ⟨v, dx, ha, hd⟩ | ha
  · obtain ⟨t1, ho⟩ := exo_at I.hok ha
    obtain ⟨mA, hns, hr⟩ := exd_at I.hok hd
    obtain ⟨od, hod, hl⟩ := lookIn_ns hns
    have J : PySem.W.InstAt s.heap a { cls := .ref C, dict := some dx, data := .fields #[.ref t1, .none, .none, .none, .bool false, .none] } C (some od) := ⟨ho, rfl, rfl, hod⟩
    exact PySem.W.kia_one (PySem.W.kitx_exc T.hcl T.hga T.hgt T.hsub T.ha T.hn T.ht T.hm) I.kIn J e (fun z => nomatch z) fun tk => ⟨.bl b, H, I.tok tk, rfl, q⟩
  · obtain ⟨⟨oe, vs, ho, hz, hv, _⟩, _, _⟩ := I.hok a _ ha
    have J : PySem.W.InstAt s.heap a oe C none := by
      obtain ⟨oc, od, oda, osl⟩ := oe
      obtain ⟨h1, h2⟩ := hz
      dsimp only at h1 h2 hv
      subst h1 h2 hv
      exact ⟨ho, rfl, rfl, trivial⟩
    exact PySem.W.kia_one (PySem.W.kitx_exc T.hcl T.hga T.hgt T.hsub T.ha T.hn T.ht T.hm) I.kIn J e (fun z => nomatch z) fun tk => ⟨.bl b, H, I.tok tk, rfl, q⟩
/-! ### C(): an own class of errors without __init__, as a value -/
theorem pe_mkN {X : Cx} {C : Addr} {bmB : List Value} {B newId initId : String} {x : Str} {p pos : Pos} (F : ExcBaseFacts B newId initId bmB) (q : PySem.W.excIn X.K C bmB newId = true) (gC : X.mg x = some (.ref C))
    (kC : PySem.W.keepIn X.K (.ref C) = true) (hg : Gl X x := by rfl) (hdb : (x == ("__debug__" : Str)) = false := by decide) :
    PE X (.Call (.Name x p) [] [] pos) (fun _ H Q => ∀ a, H a = none → Q (.ref a) (upd H a (ExO (.ref C) a))) := by
  refine ⟨fun pins s σ H Q I h => ?_⟩
  refine wpAny_Call_Name_kw (ld_glob I hg gC ?_ hdb)
  refine PySem.W.callWith_K0 I.kIn kC ?_
  show wpAny _ _ (call (.ref C) []) _ _ _
  obtain ⟨bm, N, nm, qn, bs, hdct, sn, sub, ab, col, dd, k0, k1, k2, k3, k5, mN, hC, hN, hni, T⟩ := exc_obj I.kIn q
  refine wpAny_call_exc_subT F T hC hN hni (fun h' a hm => ?_) (by show 0 ≤ sizeLine; omega)
  have hn : H a = none := I.hok.gone hm.new
  obtain ⟨t, ht, _, _⟩ := hm.there
  exact ⟨.ref a, upd H a (ExO (.ref C) a), I.laidN hm.keeps hm.new hn (exO_ok ht ⟨rfl, rfl⟩ rfl rfl rfl (show 4 < 6 by decide)), rfl, h a hn⟩
end L2.EV
set_option Elab.async false
set_option linter.all false
set_option maxRecDepth 100000
set_option maxHeartbeats 4000000
namespace L2.EV
open PySem PySem.Spec PyProof.Rows
/-! ### data that is tracked -/
def keyD : Key → PyData
  | .inl i => .int i
  | .inr x => .str x
mutual
inductive DpX (H : Hp) : V → PyData → Prop
  | non : DpX H .non .none
  | bl (b : Bool) : DpX H (.bl b) (.bool b)
  | int (i : Int) : DpX H (.int i) (.int i)
  | str (x : Str) : DpX H (.str x) (.str x)
  | lst {a : Addr} {xs : List V} {ds : List PyData} : H a = some (.lst xs) → DpXs H xs ds → DpX H (.ref a) (.list ds)
  | tup {a : Addr} {xs : List V} {ds : List PyData} : H a = some (.tup xs) → DpXs H xs ds → DpX H (.ref a) (.tuple ds)
  | dct {a : Addr} {kvs : List (Key × V)} {ds : List PyData} : H a = some (.dK kvs) → DpXs H (kvs.map (·.2)) ds → DpX H (.ref a) (.dict ((kvs.map fun p => keyD p.1).zip ds))
inductive DpXs (H : Hp) : List V → List PyData → Prop
  | nil : DpXs H [] []
  | cons {v : V} {vs : List V} {d : PyData} {ds : List PyData} : DpX H v d → DpXs H vs ds → DpXs H (v :: vs) (d :: ds)
end
theorem DpXs.length {H : Hp} {vs : List V} {ds : List PyData} (h : DpXs H vs ds) : ds.length = vs.length := by
  induction vs generalizing ds with
  | nil => cases h; rfl
  | cons v vs ih => cases h with | cons _ t => exact congrArg Nat.succ (ih t)
mutual
theorem DpX.same {H H' : Hp} (s : Same H H') : ∀ {v : V} {d : PyData}, DpX H v d → DpX H' v d
  | _, _, .non => .non
  | _, _, .bl b => .bl b
  | _, _, .int i => .int i
  | _, _, .str x => .str x
  | _, _, .lst h t => .lst (s _ _ h) (DpXs.same s t)
  | _, _, .tup h t => .tup (s _ _ h) (DpXs.same s t)
  | _, _, .dct h t => .dct (s _ _ h) (DpXs.same s t)
theorem DpXs.same {H H' : Hp} (s : Same H H') : ∀ {vs : List V} {ds : List PyData}, DpXs H vs ds → DpXs H' vs ds
  | _, _, .nil => .nil
  | _, _, .cons h t => .cons (DpX.same s h) (DpXs.same s t)
end
/-- the keys of a dict, read -/
theorem keys_read {P : Program} {w : World} {h : Heap} : ∀ {es : List DictEntry} {vs : List (Key × Value)}, Pairs (mixKind P w) es vs →
    ∃ as : List Addr, ReadsAll h (es.map (·.key)) (vs.map fun p => keyD p.1) as ∧ as = []
  | _, _, .nil => ⟨[], .nil, rfl⟩
  | _, _, .cons (kv := (k, v)) hk he t => by
    obtain ⟨as, r, e⟩ := keys_read (h := h) t
    rcases keyIs_shape (show keyIs k _ = true from hk) with ⟨i, tk, rfl, ek⟩ | ⟨x, tk, rfl, ek⟩
    · refine ⟨[] ++ as, ?_, by rw [e]; rfl⟩
      rw [List.map_cons, ek]
      exact .cons (.int i tk) r
    · refine ⟨[] ++ as, ?_, by rw [e]; rfl⟩
      rw [List.map_cons, ek]
      exact .cons (.str x tk) r
theorem vals_of_pairs {P : Program} {w : World} : ∀ {es : List DictEntry} {vs : List (Key × Value)}, Pairs (mixKind P w) es vs → es.map (·.val) = vs.map (·.2)
  | _, _, .nil => rfl
  | _, _, .cons _ he t => by
    rw [List.map_cons, List.map_cons, he, vals_of_pairs t]
theorem kv_keys : ∀ {kvs : List (Key × V)} {vs : List (Key × Value)}, KV kvs vs → (vs.map fun p => keyD p.1) = kvs.map fun p => keyD p.1
  | _, _, .nil => rfl
  | _, _, .cons h t => by
    rw [List.map_cons, List.map_cons, h.1, kv_keys t]
theorem kv_vals : ∀ {kvs : List (Key × V)} {vs : List (Key × Value)}, KV kvs vs → Vals (kvs.map (·.2)) (vs.map (·.2))
  | _, _, .nil => .nil
  | _, _, .cons h t => .cons h.2 (kv_vals t)
theorem zip_fst {α β : Type} : ∀ {xs : List α} {ys : List β}, ys.length = xs.length → (xs.zip ys).map (·.1) = xs
  | [], [], _ => rfl
  | x :: xs, y :: ys, h => by rw [List.zip_cons_cons, List.map_cons, zip_fst (Nat.succ.inj h)]
theorem zip_snd {α β : Type} : ∀ {xs : List α} {ys : List β}, ys.length = xs.length → (xs.zip ys).map (·.2) = ys
  | [], [], _ => rfl
  | x :: xs, y :: ys, h => by rw [List.zip_cons_cons, List.map_cons, zip_snd (Nat.succ.inj h)]
section
variable {X : Cx} {pins : List (Addr × Obj)} {σ : St} {H : Hp} {s : Shared}
mutual
theorem DpX.reads (I : Inv X pins σ H s) : ∀ {v : V} {d : PyData} (u : Value), DpX H v d → RelV v u → ∃ as, Reads s.heap u d as ∧ ∀ b ∈ as, H b ≠ none
  | _, _, _, .non, r => by cases r; exact ⟨_, .none, fun _ z => nomatch z⟩
  | _, _, _, .bl b, r => by cases r; exact ⟨_, .bool b, fun _ z => nomatch z⟩
  | _, _, _, .int i, r => by obtain ⟨t, rfl⟩ := r; exact ⟨_, .int i t, fun _ z => nomatch z⟩
  | _, _, _, .str x, r => by obtain ⟨t, rfl⟩ := r; exact ⟨_, .str x t, fun _ z => nomatch z⟩
  | _, _, _, .lst (a := a) (xs := xs) h t, r => by
    cases r
    obtain ⟨_, its, n, rv, e⟩ := (show ObjOk X.prog X.w H s.heap a (.lst xs) from I.hok a _ h)
    obtain ⟨as, q, k⟩ := DpXs.reads I its t rv
    refine ⟨a :: as, .list e rfl rfl q, fun b hb => ?_⟩
    rcases List.mem_cons.mp hb with e | hb
    · rw [e, h]; exact fun z => nomatch z
    · exact k b hb
  | _, _, _, .tup (a := a) (xs := xs) h t, r => by
    cases r
    obtain ⟨_, its, rv, o, e1, e2, n, e3⟩ := (show ObjOk X.prog X.w H s.heap a (.tup xs) from I.hok a _ h)
    obtain ⟨as, q, k⟩ := DpXs.reads I its t rv
    exact ⟨as, .tuple e1 e2 e3 q, k⟩
  | _, _, _, .dct (a := a) (kvs := kvs) (ds := ds) h t, r => by
    cases r
    obtain ⟨_, _, vs, rk, o, es, ep, e1, e2, e3, _, pr, _⟩ := (show ObjOk X.prog X.w H s.heap a (.dK kvs) from I.hok a _ h)
    obtain ⟨ks, q1, ek⟩ := keys_read (h := s.heap) pr
    obtain ⟨as, q2, k⟩ := DpXs.reads I _ t (kv_vals rk)
    have hl : ds.length = (kvs.map fun p => keyD p.1).length := by rw [t.length, List.length_map, List.length_map]
    refine ⟨a :: ks ++ as, .dict e1 e2.1 e3 (by rw [zip_fst hl, ← kv_keys rk]; exact q1) (by rw [zip_snd hl, vals_of_pairs pr]; exact q2), fun b hb => ?_⟩
    subst ek
    rcases List.mem_cons.mp (show b ∈ a :: as from hb) with e | hb
    · rw [e, h]; exact fun z => nomatch z
    · exact k b hb
theorem DpXs.reads (I : Inv X pins σ H s) : ∀ {vs : List V} {ds : List PyData} (us : List Value), DpXs H vs ds → Vals vs us → ∃ as, ReadsAll s.heap us ds as ∧ ∀ b ∈ as, H b ≠ none
  | _, _, _, .nil, r => by cases r; exact ⟨_, .nil, fun _ z => nomatch z⟩
  | _, _, _, .cons h t, r => by
    cases r with
    | cons r1 r2 =>
      obtain ⟨as, q1, k1⟩ := DpX.reads I _ h r1
      obtain ⟨bs, q2, k2⟩ := DpXs.reads I _ t r2
      exact ⟨as ++ bs, .cons q1 q2, fun b hb => (List.mem_append.mp hb).elim (k1 b) (k2 b)⟩
end
end
/-! ### repr -/
def rRepr : List V → Hp → VK → Prop := fun xs H Q => ∃ (x : V) (d : PyData), xs = [x] ∧ DpX H x d ∧ d.showable = true ∧ d.shown.length ≤ sizeLine ∧ d.depth ≤ 60 ∧ Q (.str d.shown) H
theorem call_repr {X : Cx} (hg : X.A.guards = some []) (hu : X.A.units + 64 < cLine) (hs : (X.K.lookup sysModules).isSome = true) : CallR X (.builtin "repr") rRepr := by
  intro pins s σ H xs us Q I r h
  obtain ⟨x, d, rfl, D, sh, hl, hd, q⟩ := h
  cases r with
  | cons r1 r2 =>
    cases r2
    have no : H sysModules = none := by
      obtain ⟨o, e⟩ := Option.isSome_iff_exists.mp hs
      exact (I.bs sysModules o (I.ok.mod.kin _ _ e)).2
    obtain ⟨as, rd, k⟩ := D.reads I _ r1
    have hsm : d.hasDict = true → sysModules ∉ as := fun _ z => k _ z no
    show wpAny _ _ (call (.builtin "repr") [_]) _ _ _
    cases D with
    | non => cases r1; exact PySem.P.repr_of_none ⟨.str _, H, I.tok _, ⟨_, rfl⟩, q⟩
    | bl b =>
      cases r1
      exact PySem.P.repr_of_bool ⟨.str _, H, I.tok _, ⟨_, rfl⟩, q⟩
    | int i =>
      obtain ⟨t, rfl⟩ := r1
      exact PySem.P.repr_of_int (by simpa [PyData.showable] using sh) ⟨.str _, H, I.tok _, ⟨_, rfl⟩, q⟩
    | str y =>
      obtain ⟨t, rfl⟩ := r1
      exact PySem.P.repr_of_str ⟨.str _, H, I.tok _, ⟨_, rfl⟩, q⟩ hl
    | lst h t =>
      cases r1
      exact repr_of_reads' rd sh hsm hg (by omega) (fun _ _ e => e) (fun h' u tk kp => ⟨.str _, H, I.kept kp, ⟨_, rfl⟩, q⟩) hl
    | tup h t =>
      cases r1
      exact repr_of_reads' rd sh hsm hg (by omega) (fun _ _ e => e) (fun h' u tk kp => ⟨.str _, H, I.kept kp, ⟨_, rfl⟩, q⟩) hl
    | dct h t =>
      cases r1
      exact repr_of_reads' rd sh hsm hg (by omega) (fun _ _ e => e) (fun h' u tk kp => ⟨.str _, H, I.kept kp, ⟨_, rfl⟩, q⟩) hl
end L2.EV
set_option Elab.async false
set_option linter.all false
set_option maxRecDepth 100000
set_option maxHeartbeats 4000000
namespace L2.EV
open PySem PySem.Spec PyProof.Rows
/-! ### how long a shown thing is at most -/
theorem len_app (a b : Str) : (a ++ b).length = a.length + b.length := PySem.Str.length_append a b
theorem list_le : ∀ ts : List Str, (listText ts).length ≤ piled ts + 2
  | [] => by decide +kernel
  | t :: r => by
    unfold listText
    show ((textFrom 1 (("[" : Str) ++ (if 0 > 0 then ", " else "" : String) ++ t) r) ++ ("]" : Str)).length ≤ _
    rw [len_app, textFrom_length_pos _ _ _ (by omega), len_app, len_app, piled_cons]
    have e1 : ("[" : Str).length = 1 := rfl
    have e2 : ((if 0 > 0 then ", " else "" : String) : Str).length = 0 := rfl
    have e3 : ("]" : Str).length = 1 := rfl
    omega
theorem join_le (ts : List Str) : (Str.join ", " ts).length ≤ piled ts := by
  by_cases h : ts = []
  · subst h; decide +kernel
  · have := join_length_add ts h
    omega
theorem tuple_le (ts : List Str) : (tupleText ts).length ≤ piled ts + 3 := by
  unfold tupleText
  rw [len_app, len_app]
  have e1 : ("(" : Str).length = 1 := rfl
  have e2 : ((if ts.length == 1 then ",)" else ")" : String) : Str).length ≤ 2 := by split <;> decide +kernel
  have := join_le ts
  omega
theorem dict_le (ts : List Str) : (dictText ts).length ≤ piled ts + 2 := by
  unfold dictText
  rw [len_app, len_app]
  have e1 : ("{" : Str).length = 1 := rfl
  have e2 : ("}" : Str).length = 1 := rfl
  have := join_le ts
  omega
/-- codes that repr knows -/
def Codes (x : Str) : Prop := ∀ c ∈ x.cps.toList, c < 16 ^ 8
theorem str_le {x : Str} (h : Codes x) : (PyData.str x).shown.length ≤ 10 * x.length + 2 := by
  show (reprText x).length ≤ _
  exact PySem.StrLaws.reprText_len x h

/-! ### a def's promise where no repr is under way -/
structure FnG (P : Program) (w : World) (K : PySem.W.Frag) (mg : Str → Option Value) (base : Heap) (k : Nat) (f : Addr) (fd : FuncData) (ps : List Str) (sp : Sp) : Prop where
  len : ∀ vs H Q E, sp vs H Q E → vs.length = ps.length
  run : ∀ (A : Around) (outer : List Env) (s : Shared) (H : Hp) (args : Args) (us : List Value) (vs : List V) (Q : VK) (E : XK),
    A.guards = some [] → Room k A → Env0 P w K mg base A outer s H → BindsTo s fd args (ps.zip us) → Vals vs us → sp vs H Q E →
    codeAny (model P w) A (.call (.ref f) args) (CR CX0 outer P w H s Q E) s
section
variable {P : Program} {w : World} {K : PySem.W.Frag} {mg : Str → Option Value} {base : Heap} {x qual : Str} {params : Arguments} {body : List Stmt} {scope : Scope} {f : Addr} {fd : FuncData}
theorem fnG_of {dvs : List V} {kws : List (Str × V)} {N ps : List Str} {k : Nat} {sp : Sp} (F : FunD K x qual params body scope dvs kws f fd) (S : FnScope N ps scope)
    (len : ∀ vs H Q E, sp vs H Q E → vs.length = ps.length)
    (hbody : ∀ (cdv : Value) (A : Around) (outer : List Env) (s : Shared) (H : Hp) (vs : List V) (Q : VK) (E : XK), A.guards = some [] →
      Room k (A.deeper (envOfC qual scope s.heap.objs.size f cdv)) → sp vs H Q E →
      ∃ t, PSs (cxOf CX0 P w K mg base N qual scope f cdv A outer s H E) body t ∧ t { nx := fun _ H' => Q .non H', rt := Q } (start N vs) H) :
    FnG P w K mg base (k + 1) f fd ps sp := by
  obtain ⟨oc, od, dV, kV, doc, pm, an, cdv, ct, osl, rfl, lk, hcd, _, _⟩ := F.ex
  refine ⟨len, fun A outer s H args us vs Q E hgd hr e0 hb r hsp => ?_⟩
  have hl := len _ _ _ _ hsp
  have kin : K.In s.heap := PySem.W.Frag.In.keeps e0.mod.kin fun b o e => (e0.bs b o e).1
  have nolim : s.heap.NoLimit := Heap.NoLimit.keeps e0.mod.nolimit fun b o e => (e0.bs b o e).1
  have kinds : ∀ y ∈ ps.zip us, scope.names.lookup y.1 = some .local ∨
      (scope.names.lookup y.1 = some .cell ∧ ((cellsFrom (s.heap.objs.size + 1) scope.names []).lookup y.1).isSome = true) := by
    rintro ⟨n, v⟩ hy
    exact (S.par n (List.of_mem_zip hy).1).imp id fun q => ⟨q, PySem.W.cellsFrom_some _ _ _ (.inl q)⟩
  refine codeAny_call_function hr.depth (kin _ _ lk) rfl S.co S.gen rfl (PySem.W.codeRec_of kin hcd) (hb _ _ _ _ ?_)
  refine wpAny_newFunctionEnv_cells S.kind kinds fun env he s1 z => ?_
  subst he
  refine ⟨nolim.keeps z.toInCall.keep, codeAny_func ?_⟩
  obtain ⟨t, ht, hq⟩ := hbody cdv A outer s H vs Q E hgd (hr.deeper _) hsp
  have I0 := inv_start (CX := CX0) (E := E) S hr.hd e0 hl r z
  refine wpAny_mono (ht.run [] s1 _ H _ I0 hq) (fun fl s' hs => ?_) fun e s' hs => hs
  cases fl with
  | ret u =>
    obtain ⟨v, σ', H', J, rv, q⟩ := hs
    exact ⟨v, H', J.os, J.bare, J.base, J.hok, rv, q⟩
  | next =>
    obtain ⟨σ', H', J, q⟩ := hs
    exact ⟨.non, H', J.os, J.bare, J.base, J.hok, rfl, q⟩
  | brk => obtain ⟨_, _, _, q⟩ := hs; exact q.elim
  | cont => obtain ⟨_, _, _, q⟩ := hs; exact q.elim
end
section
variable {X : Cx} {k : Nat} {f : Addr} {fd : FuncData} {ps : List Str} {sp : Sp} {x : Str} {p pos : Pos} {e : Expr} {es : List Expr} {t : TA}
/-- f(e, ..) -/
theorem pe_callG (F : FnG X.prog X.w X.K X.mg X.base k f fd ps sp) (hgd : X.A.guards = some []) (hr : Room k X.A) (hg : Gl X x) (hm : X.mg x = some (.ref f)) (hk : PySem.W.keepIn X.K (.ref f) = true) (hb : Binds X.K fd ps [])
    (ha : PA X (e :: es) t) (hdb : (x == ("__debug__" : Str)) = false := by decide) (he : starEach (e :: es) X.env = (false, eval e X.env) :: starEach es X.env := by rfl) (hpl : (backTo pos (starEach es X.env)).any (·.1) = false := by rfl) :
    PE X (.Call (.Name x p) (e :: es) [] pos) (tCall sp [] E0 t) := by
  refine ⟨fun pins s σ H Q I h => ?_⟩
  refine wpAny_Call_Name_kw (ld_glob I hg hm ?_ hdb)
  refine PySem.W.callWith_K (h₀ := X.base) I.ok.mod.kin hk (thn (ha.run pos pins s σ H _ I h) fun us s1 ⟨vs, H1, I1, r, q⟩ => ⟨I1.kIn, ?_⟩) he hpl
  have q : sp (vs ++ []) H1 Q E0 := q
  rw [List.append_nil] at q
  have hl : (us ++ []).length = ps.length := by rw [List.append_nil, ← r.length]; exact F.len _ _ _ _ q
  have bt := hb s1 us I1.kIn hl
  rw [List.append_nil] at bt
  refine wpAny_call (codeAny_mono (F.run X.A X.stack s1 H1 ⟨us, []⟩ us vs Q E0 hgd hr I1.env0 bt r q) fun r' s' z => ?_)
  cases r' with
  | error er => exact z.elim
  | ok fl =>
    cases fl with
    | ret u => exact I1.after z
    | next => exact z.elim
    | brk => exact z.elim
    | cont => exact z.elim
end

/-! ### the law's call: the script is tracked (or written), nothing else -/
section
variable {P : Program} {w : World} {K : PySem.W.Frag} {mg mb : Str → Option Value} {k : Nat} {fa a : Addr} {fd : FuncData} {x : Str} {sp : Sp} {s1 : Shared} {us : List Value} {ns : List Int}
abbrev Told (s1 : Shared) (r : Result) (s' : Shared) : Prop := r = .ok (.ret (.bool true)) ∧ OldK s1.heap s'.heap ∧ s'.os = s1.os ∧ AllBare s'.gens
abbrev scr (us : List Value) : Obj := { cls := .type "list", data := .seq us.toArray }
theorem law_at (H : Hp) (KX : K.In s1.heap) (hns : s1.heap.Ns mainGlobals mg) (hb : s1.heap.Ns builtinsNs mb) (hbb : ∀ x : Str, x ≠ "__name__" → mb x = bootBuiltins x)
    (hlim : s1.heap.NoLimit) (hg : s1.gens = #[]) (ha : s1.heap.get? a = some (scr us)) (hr : Room k callerA)
    (F : ∀ base : Heap, K.In base → base.Ns mainGlobals mg → FnG P w K mg base k fa fd [x] sp) (hbind : ∀ (s : Shared) (u : Value), BindsTo s fd ⟨[u], []⟩ [(x, u)])
    (hsp : sp [.ref a] H (fun v _ => v = .bl true) fun _ _ _ => False) (hO : Only H) (hok : HOk P w H s1.heap) (hA : ∀ b, H b ≠ none → b = a) (hK : H a ≠ none → K.lookup a = none) :
    codeAny (model P w) callerA (.call (.ref fa) ⟨[.ref a], []⟩) (Told s1) s1 := by
  -- what is not tracked stands below
  have at_a : ∀ {b : Addr}, H b ≠ none → b = a := fun {b} z => hA b z
  have dict_free : ∀ {b : Addr} {o : Obj} {es : Array DictEntry} {ep : Nat}, s1.heap.get? b = some o → o.data = .dict es ep → H b = none := by
    intro b o es ep e hd
    by_cases z : H b = none
    · exact z
    · rw [at_a z, ha] at e
      have e' := Option.some.inj e
      subst e'
      cases hd
  have ns_low : ∀ {b : Addr} {m : Str → Option Value}, s1.heap.Ns b m → (hidT s1.heap H).Ns b m := by
    rintro b m ⟨o, es, ep, e, d, r⟩
    exact ⟨o, es, ep, hidT_get e (dict_free e d), d, r⟩
  have k_low : K.In (hidT s1.heap H) := fun b o e => hidT_get (KX b o e) (by
    by_cases z : H b = none
    · exact z
    · have eb := at_a z
      rw [eb] at z e
      rw [hK z] at e
      cases e)
  obtain ⟨mc, l1, l2⟩ := hlim
  have md : Mod K mg (hidT s1.heap H) := ⟨k_low, ns_low hns, ⟨mb, ns_low hb, hbb⟩, ⟨mc, ns_low l1, l2⟩⟩
  have e0 : Env0 P w K mg (hidT s1.heap H) callerA [] s1 H :=
    ⟨rfl, md, fun b o e => of_hidT e, Nat.le_of_eq (hidT_size _ _), trivial, fun b z => (nomatch (show b ∈ ([] : List Addr) from z)), hok, .of_eq hg⟩
  refine codeAny_mono ((F _ k_low (ns_low hns)).run callerA [] s1 H ⟨[.ref a], []⟩ [.ref a] [.ref a] _ _ rfl hr e0 (hbind s1 (.ref a)) (.cons rfl .nil) hsp) fun r s' h => ?_
  cases r with
  | error e => exact h.elim
  | ok fl =>
    cases fl with
    | next => exact h.elim
    | brk => exact h.elim
    | cont => exact h.elim
    | ret u =>
      obtain ⟨v, H', os, bare, un, hok', r', q⟩ := h
      have q' : v = .bl true := q
      subst q'
      cases (show u = Value.bool true from r')
      refine ⟨rfl, OldK.of_keep fun b o e => ?_, os, bare⟩
      cases q : H b with
      | none => exact un.keep b o e q (fun z => nomatch (show b ∈ ([] : List Addr) from z)) (fun z => nomatch z)
      | some u =>
        rcases hO b with z | ⟨ob, xs, z⟩
        · rw [q] at z
          cases z
        · have f1 := (hok b _ z).1
          have f2 := (hok' b _ (un.frzs b ob _ z)).1
          rw [e] at f1
          cases f1
          exact f2
theorem law_callG (KX : K.In s1.heap) (hns : s1.heap.Ns mainGlobals mg) (hb : s1.heap.Ns builtinsNs mb) (hbb : ∀ x : Str, x ≠ "__name__" → mb x = bootBuiltins x)
    (hlim : s1.heap.NoLimit) (hg : s1.gens = #[]) (ha : s1.heap.get? a = some (scr us)) (hi : IntsAre us ns) (hl : ns.length ≤ sizeLine) (hr : Room k callerA)
    (F : ∀ base : Heap, K.In base → base.Ns mainGlobals mg → FnG P w K mg base k fa fd [x] sp) (hbind : ∀ (s : Shared) (u : Value), BindsTo s fd ⟨[u], []⟩ [(x, u)])
    (hsp : ∀ H : Hp, Only H → SqL K H a (ns.map V.int) → sp [.ref a] H (fun v _ => v = .bl true) fun _ _ _ => False) :
    codeAny (model P w) callerA (.call (.ref fa) ⟨[.ref a], []⟩) (Told s1) s1 := by
  have rv := vals_ints hi
  cases hk : K.lookup a with
  | some o =>
    have e := KX a o hk
    rw [ha] at e
    have e' := Option.some.inj e
    subst e'
    have only : Only (fun _ => none) := fun _ => .inl rfl
    exact law_at (fun _ => none) KX hns hb hbb hlim hg ha hr F hbind (hsp _ only (.inr ⟨_, us.toArray, _, hk, rfl, rfl, rfl, by rw [List.size_toArray, hi.length]; exact hl, by simpa using rv⟩)) only
      (fun _ _ z => nomatch (show (none : Option HO) = some _ from z)) (fun _ z => absurd rfl z) fun z => absurd rfl z
  | none =>
    let Hs : Hp := fun b => if b = a then some (.frz (scr us) (.lst (ns.map V.int))) else none
    have here : Hs a = some (.frz (scr us) (.lst (ns.map V.int))) := if_pos rfl
    have away : ∀ {b : Addr}, b ≠ a → Hs b = none := fun {b} z => if_neg z
    have only : Only Hs := fun b => by
      by_cases z : b = a
      · rw [z]
        exact .inr ⟨_, _, here⟩
      · exact .inl (away z)
    refine law_at Hs KX hns hb hbb hlim hg ha hr F hbind (hsp _ only (.inl (.inr ⟨_, here⟩))) only (fun b u z => ?_) (fun b z => ?_) fun _ => hk
    · by_cases eb : b = a
      · subst eb
        rw [here] at z
        cases z
        exact ⟨ha, by rw [List.length_map]; exact hl, us, _, rv, ha⟩
      · rw [away eb] at z
        cases z
    · by_cases eb : b = a
      · exact eb
      · exact absurd (away eb) z
end
theorem walk_ofG {l : PySem.W.OpenLaw} {n k : Nat} {q : Program} {loose : List Str} {XP : (Str → Option Value) → Heap → Prop} {YP : World → Heap → Prop} {d : DefRec} {x : Str}
    (hn : l.most = some n) (hn2 : n ≤ sizeLine) (hdf : d.params.defaults = []) (hr : Room k callerA)
    (F : ∀ (w : World) (mg : Str → Option Value) (fa : Addr) (h : Heap), YP w h → h.Ns mainGlobals mg → mg d.name = some (.ref fa) →
      ∃ (K : PySem.W.Frag) (fd : FuncData) (sp : Sp), K.In h ∧ (∀ (s : Shared) (u : Value), BindsTo s fd ⟨[u], []⟩ [(x, u)]) ∧
        (∀ (H : Hp) (a : Addr) (ns : List Int), ns.length ≤ n → Only H → SqL K H a (ns.map V.int) → sp [.ref a] H (fun v _ => v = .bl true) fun _ _ _ => False) ∧
        ∀ base : Heap, K.In base → base.Ns mainGlobals mg → FnG l.prog w K mg base k fa fd [x] sp) :
    PySem.W.WalkO q loose XP YP l.row.toRowW d [] (fun f vs => PySem.call f vs) := by
  refine Att.attach_call hn hdf fun w s0 s1 mg mb fa o pm cd doc a us ns G Y ho hd hcd hmg hobj hints hlen hg => ?_
  obtain ⟨K, fd, sp, KX, hb, hsp, hF⟩ := F w mg fa _ Y G.T.g hmg
  exact law_callG KX G.T.g G.T.b G.T.builtins G.T.nolimit hg hobj hints (Nat.le_trans hlen hn2) hr hF hb fun H hO hS => hsp H a ns hlen hO hS
end L2.EV
set_option Elab.async false
set_option linter.all false
set_option maxRecDepth 100000
set_option maxHeartbeats 0
namespace L2.EV
open PySem PySem.Spec PyProof.Rows
/-! ### facts of own classes of errors, by names -/
def clsB (K : PySem.W.Frag) (C : Addr) : Bool := match K.lookup C with
  | some ⟨.type "type", _, .cls c, sl⟩ => (match c.mro, sl.toList with
    | .ref D :: up, [_, _, _, _, some (.builtin n), _] => D == C && n == "ValueError.__new__" && !c.hasDel && c.hasDict && PySem.HandSPX.refsVE up
    | _, _ => false)
  | _ => false
theorem clsB_ok {K : PySem.W.Frag} {C : Addr} (h : clsB K C = true) : ∃ nm q N bs bm sn sub ab col dd k0 k1 k2 k3 k5, K.lookup C = some (excClassObj nm q C N bs bm true sn sub ab col dd k0 k1 k2 k3 k5 "ValueError.__new__") ∧ PySem.HandSPX.refsVE bm = true := by
  unfold clsB at h
  split at h
  · next dd c sl e =>
    split at h
    · next D up k0 k1 k2 k3 n k5 em es =>
      obtain ⟨nm, bs, mro, N, qn, hd, sn, sub, ab, col, del⟩ := c
      dsimp only at em h
      subst em
      have esl : sl = #[k0, k1, k2, k3, some (.builtin n), k5] := Array.toList_inj.mp (by rw [es])
      subst esl
      simp only [Bool.and_eq_true, beq_iff_eq, Bool.not_eq_true'] at h
      obtain ⟨⟨⟨⟨rfl, rfl⟩, rfl⟩, rfl⟩, hr⟩ := h
      exact ⟨nm, qn, N, bs, up, sn, sub, ab, col, dd, k0, k1, k2, k3, k5, e, hr⟩
    · cases h
  · cases h
def isB (a b : Option (Option Value)) : Bool := decide (a = b)
/-- an own class with an __init__ that stores one field -/
def errB (K : PySem.W.Frag) (x : Str) : Bool :=
  let C := He.ga K x
  let f := He.ma K C "__init__"
  [He.Fa.ok K (.glo x), clsB K C, isB (PySem.W.findIn K (.ref C) "__setattr__") (some (some (.builtin "object.__setattr__"))),
   decide (PySem.W.subIn K (.ref C) (.type "BaseException") = some true), decide (PySem.W.typeIn K (.ref C) = some (.type "type")),
   PySem.W.keepIn K (.ref C), isB (PySem.W.findIn K (.ref C) "value") (some none), isB (PySem.W.findIn K (.ref C) "__init__") (some (some (.ref f))),
   decide (PySem.W.typeIn K (.ref f) = some (.type "function")),
   isB (PySem.W.findIn K (.ref C) "__getattribute__") (some (some (.builtin "BaseException.__getattribute__"))),
   isB (PySem.W.findIn K (.ref C) "__getattr__") (some none), PySem.W.hasDictIn K C].all id
theorem errB_ok {K : PySem.W.Frag} {x : Str} (h : errB K x = true) : He.Fa.ok K (.glo x) = true ∧ Err K (He.ga K x) (He.ma K (He.ga K x) "__init__") := by
  unfold errB isB at h
  simp only [List.all_cons, List.all_nil, id, Bool.and_true, Bool.and_eq_true, decide_eq_true_eq] at h
  obtain ⟨h0, h1, h2, h3, h4, h5, h6, h7, h8, h9, h10, h11⟩ := h
  exact ⟨h0, ⟨⟨clsB_ok h1, h2, h3, h4, h5⟩, h6, h7, h8, ⟨h9, h10, h3, h11⟩⟩⟩
/-- how isinstance asks the instances of the class at C -/
def asksB (K : PySem.W.Frag) (C : Addr) : Bool :=
  [(PySem.W.clsIn K C).isSome, isB (PySem.W.findIn K (.ref C) "__getattribute__") (some (some (.builtin "BaseException.__getattribute__"))),
   isB (PySem.W.findIn K (.ref C) "__getattr__") (some none), decide (PySem.W.subIn K (.ref C) (.type "BaseException") = some true),
   isB (PySem.W.findIn K (.ref C) "__class__") (some (some (.builtin "object.__class__"))),
   decide (PySem.W.specialIn K (.builtin "object.__class__") "__get__" = some (some (.builtin "getset_descriptor.__get__"))),
   decide (PySem.W.takesIn K (.builtin "object.__class__") = some true), decide (PySem.W.mroIn K C (.type "object") = some true)].all id
theorem asksB_ok {K : PySem.W.Frag} {C : Addr} (h : asksB K C = true) : Asks K C := by
  unfold asksB isB at h
  simp only [List.all_cons, List.all_nil, id, Bool.and_true, Bool.and_eq_true, decide_eq_true_eq] at h
  obtain ⟨h0, h1, h2, h3, h4, h5, h6, h7⟩ := h
  exact ⟨h0, h1, h2, h3, h4, h5, h6, h7⟩
/-! ### such an __init__ -/
abbrev nInit : List Str := ["self", "value"]
theorem ok_init {P : Program} {w : World} {K : PySem.W.Frag} {mg : Str → Option Value} {base : Heap} {st : Stmt} {q : Str} {f C fI : Addr} {fd : FuncData} {dvs : List V} {p1 p2 p3 p4 : Pos}
    (F : FunD K "__init__" q (defArgs st) (defBody st) (defScope st) dvs [] f fd) (S : FnScope nInit nInit (defScope st)) (l1 : (defScope st).names.lookup ("self" : Str) = some NameKind.local) (l2 : (defScope st).names.lookup ("value" : Str) = some NameKind.local)
    (hb : defBody st = [.Assign [.Attribute (.Name "self" p1) "value" p2] (.Name "value" p3) p4]) (E : Err K C fI) : FnOk P w K mg base CX0 1 f fd nInit (spInit C) := by
  refine F.ok S (fun vs H Q E h => ?_) (fun cdv A outer s H vs Q E' hr h => ?_)
  · obtain ⟨a, v, rfl, _⟩ := h
    rfl
  · obtain ⟨a, v, rfl, ha, k⟩ := h
    rw [hb]
    refine ⟨_, PSs.nox (pss_one (ps_ost (pv 0 rfl (Or.inl l1)) (pv 1 rfl (Or.inl l2)))), ?_⟩
    exact ⟨_, rfl, _, rfl, a, C, rfl, E.ox, E.noV, .inl ⟨ha, k⟩⟩
end L2.EV
set_option Elab.async false
set_option linter.all false
set_option maxRecDepth 100000
set_option maxHeartbeats 4000000
namespace L2.EV
open PySem PySem.Spec PyProof.Rows
abbrev argsI (a1 a2 a3 : Pos) : Arguments := { posonlyargs := [], args := [⟨"self", none, a1⟩, ⟨"value", none, a2⟩], vararg := none, kwonlyargs := [], kw_defaults := [], kwarg := none, defaults := [.Constant .none 0 a3] }
abbrev bodyI (p1 p2 p3 p4 : Pos) : List Stmt := [.Assign [.Attribute (.Name "self" p1) "value" p2] (.Name "value" p3) p4]
abbrev scopeI : Scope := { kind := .function, names := [("self", .local), ("value", .local)], isGenerator := false, isCoroutine := false }
/-- def __init__(self, value=None): self.value = value -/
structure Init1 (st : Stmt) : Prop where
  ex : ∃ a1 a2 a3 p1 p2 p3 p4, defArgs st = argsI a1 a2 a3 ∧ defBody st = bodyI p1 p2 p3 p4 ∧ defScope st = scopeI
theorem scI : FnScope nInit nInit scopeI := ⟨rfl, rfl, rfl, by decide +kernel, rfl, by decide +kernel, by decide +kernel⟩
theorem ck_of {P : Program} {w : World} {K : PySem.W.Frag} {mg : Str → Option Value} {base : Heap} {st : Stmt} {x q : Str} {fd : FuncData} (I : Init1 st)
    (F : FunD K "__init__" q (defArgs st) (defBody st) (defScope st) [.non] [] (He.ma K (He.ga K x) "__init__") fd) (gx : mg x = some (.ref (He.ga K x))) (E : Err K (He.ga K x) (He.ma K (He.ga K x) "__init__")) : Ck P w K mg base x (He.ga K x) := by
  obtain ⟨a1, a2, a3, p1, p2, p3, p4, e1, e2, e3⟩ := I.ex
  have S : FnScope nInit nInit (defScope st) := by rw [e3]; exact scI
  refine ⟨gx, _, fd, E, ok_init (p1 := p1) (p2 := p2) (p3 := p3) (p4 := p4) F S (by rw [e3]; rfl) (by rw [e3]; rfl) e2 E, ?_, ?_, ?_⟩
  · rw [e1] at F
    obtain ⟨ds, rv, b⟩ := F.binds1 (ps := nInit) 2 1 (by simp) rfl fun T kV doc pm an cdv ct us its l1 l2 => match us, its, l1, l2 with | [_, _], [_], _, _ => ⟨_, rfl, rfl⟩
    cases rv
    exact fun s self u X => b s [self, u] X rfl
  · rw [e1] at F
    obtain ⟨ds, rv, b⟩ := F.binds1 (ps := nInit) 1 0 (by simp) rfl fun T kV doc pm an cdv ct us its l1 l2 => match us, its, l1, l2 with | [_], [_], _, _ => ⟨_, rfl, rfl⟩
    obtain ⟨d, rfl, r1⟩ := rv.one
    cases (show d = Value.none from r1)
    exact fun s self X => b s [self] X rfl
  · rw [e1] at F
    obtain ⟨its, b⟩ := F.kbindsD (ps := nInit) 1 ["value"] (fun us _ ws => us ++ ws) (by simp) (fun r1 _ r3 => r1.append r3) fun T kV doc pm an cdv ct us its ws l1 l2 l3 => match us, its, ws, l1, l2, l3 with | [_], [_], [_], _, _, _ => ⟨_, rfl, rfl⟩
    exact fun s self u X => b.to s [self] [u] X rfl rfl
end L2.EV
set_option Elab.async false
set_option linter.all false
set_option maxRecDepth 100000
set_option maxHeartbeats 4000000
namespace L2.EV
open PySem PySem.Spec PyProof.Rows
/-! ### raise C(e), C an own class of errors whose __init__ stores its one field -/
/-- the least reading that asks what te asks, and may be weakened -/
def mno (te : TE) : TE := fun σ H Q => ∃ Q0 : VK, te σ H Q0 ∧ ∀ v H', Q0 v H' → Q v H'
theorem pe_mno {X : Cx} {e : Expr} {te : TE} (he : PE X e te) : PE X e (mno te) :=
  ⟨fun pins s σ H Q I ⟨Q0, h, m⟩ => thn (he.run pins s σ H Q0 I h) fun u s1 ⟨v, H1, I1, r, q⟩ => ⟨v, H1, I1, r, m v H1 q⟩⟩
theorem PS.imp {X : Cx} {st : Stmt} {t t' : TS} (h : PS X st t) (m : ∀ D σ H, t' D σ H → t D σ H) : PS X st t' := ⟨fun pins s σ H D I q => h.run pins s σ H D I (m D σ H q)⟩
theorem PE.imp {X : Cx} {e : Expr} {t t' : TE} (h : PE X e t) (m : ∀ σ H Q, t' σ H Q → t σ H Q) : PE X e t' := ⟨fun pins s σ H Q I q => h.run pins s σ H Q I (m σ H Q q)⟩
theorem PA.imp {X : Cx} {es : List Expr} {t t' : TA} (h : PA X es t) (m : ∀ σ H Q, t' σ H Q → t σ H Q) : PA X es t' := ⟨fun pos pins s σ H Q I q => h.run pos pins s σ H Q I (m σ H Q q)⟩
theorem made_heap {H : Hp} {a d C : Addr} {fs : List (Str × V)} (ha : H a = none) (hd : H d = none) (ne : d ≠ a) :
    upd (del (upd (upd (upd H a (exo a C none)) d (exd d fs)) a (exo a C (some d))) a) d (.xd fs) = upd H d (.xd fs) := by
  funext b
  by_cases e1 : b = d
  · rw [e1, upd_same, upd_same]
  · rw [upd_ne e1, upd_ne e1]
    by_cases e2 : b = a
    · rw [e2, del_same, ha]
    · rw [del_ne e2, upd_ne e2, upd_ne e1, upd_ne e2]
theorem ps_rz {X : Cx} {C : Addr} {x : Str} {W : WX} {e : Expr} {te : TE} {p pos pos2 : Pos} (c : Ck X.prog X.w X.K X.mg X.base x C) (hc : X.calm = true) (hr : Room 2 X.A) (tk : Takes X W) (he : PE X e te) (hg : Gl X x := by rfl)
    (hdb : (x == ("__debug__" : Str)) = false := by decide) (hs : starEach [e] X.env = (false, eval e X.env) :: starEach [] X.env := by rfl) :
    PS X (.Raise (some (.Call (.Name x p) [e] [] pos)) none pos2) (fun _ σ H => te σ H fun v H1 => ∀ d, H1 d = none → W (.ref C) (some d) σ (upd H1 d (.xd [(("value" : Str), v)]))) := by
  obtain ⟨fI, fd, E, F, b1, b0, bk⟩ := c.ex
  have hb : Binds X.K fd ["self", "value"] [] := fun s us KX hl => by
    rw [List.append_nil] at hl ⊢
    match us, hl with
    | [self, u], _ => exact b1 s self u KX
  refine PS.imp (ps_raise hc tk (pmk_oex E.ox E.iC E.tI F hr hb .nil pass0 hg c.mgx (pa_cons (pe_mno he) pa_nil hs) hdb hs (by rfl))) fun D σ H q => ?_
  refine ⟨_, q, fun v H1 z => ⟨(by show 1 ≤ 1000; decide), fun a ha => ?_⟩⟩
  refine ⟨a, v, rfl, upd_same, fun dx hdx ne => ⟨rfl, dx, [(("value" : Str), v)], upd_same, ?_, ?_, ?_⟩⟩
  · rw [upd_ne ne]
    exact upd_same
  · rw [upd_ne ne] at hdx
    exact hdx
  · have hd : H1 dx = none := by
      rw [upd_ne ne] at hdx
      exact hdx
    show W (.ref C) (some dx) σ _
    rw [made_heap ha hd ne]
    exact z dx hd
/-! ### isinstance of the error that a suite holds -/
/-- isinstance(e, c) | isinstance(e, (c1, ..)): e at a, of the class cls, its dict d -/
def rIsS (K : PySem.W.Frag) (a : Addr) (cls : Value) (d : Option Addr) : List V → Hp → VK → Prop := fun xs H Q => ∃ (C dd : Addr) (fs : List (Str × V)) (c : V) (b : Bool), xs = [.ref a, c] ∧ cls = .ref C ∧ d = some dd ∧ H dd = some (.xd fs) ∧ Asks K C ∧
  ((∃ cv, ClsV c cv ∧ PySem.W.kitOne K (.ref C) cv = some b) ∨ ∃ (tp : Addr) (cs : List V) (us : List Value), c = .ref tp ∧ H tp = some (.tup cs) ∧ Paired ClsV cs us ∧ PySem.W.kitAny K (.ref C) us = some b) ∧ Q (.bl b) H
theorem call_isS {X : Cx} {a : Addr} {oe : Obj} {cls : Value} {d : Option Addr} {pn : List (Addr × Obj)} (hz : Zc cls d oe) (hf : ∃ vs, oe.data = .fields vs) : CallR (X.suite a ((a, oe) :: pn)) (.builtin "isinstance") (rIsS X.K a cls d) := by
  intro pins s σ H xs us Q I r h
  obtain ⟨C, dd, fs, c, b, rfl, rfl, rfl, hd, T, hk, q⟩ := h
  obtain ⟨u1, u2, rfl, r1, r2⟩ := vals2 r
  cases (show u1 = Value.ref a from r1)
  obtain ⟨ha, _⟩ := I.pin (a, oe) (List.mem_append_left _ List.mem_cons_self)
  obtain ⟨vs, hdat⟩ := hf
  obtain ⟨mA, hns, _⟩ := (show ObjOk X.prog X.w H s.heap dd (.xd fs) from I.hok dd _ hd)
  obtain ⟨od, ho, _⟩ := lookIn_ns hns
  have J : PySem.W.InstAt s.heap a oe C (some od) := ⟨ha, hz.1, by unfold PySem.W.notCls; rw [hdat] <;> rfl, by rw [hz.2]; exact ho⟩
  have Z := PySem.W.kitx_exc (x := a) (od := some od) T.hcl T.hga T.hgt T.hsub T.ha T.hn T.ht T.hm (ox := oe)
  rcases hk with ⟨cv, hc, e⟩ | ⟨tp, cs, ws, rfl, hT, k, e⟩
  · have e2 := hc.eq r2
    subst e2
    exact PySem.W.kia_one Z I.kIn J e (fun z => nomatch z) fun tk => ⟨.bl b, H, I.tok tk, rfl, q⟩
  · cases (show u2 = Value.ref tp from r2)
    obtain ⟨_, its, rv, o, h1, h2, n, h3⟩ := (show ObjOk X.prog X.w H s.heap tp (.tup cs) from I.hok tp _ hT)
    have e3 := ClsV.all k rv
    subst e3
    obtain ⟨oc, odd, dt, sl⟩ := o
    simp only at h2 h3
    subst h2 h3
    exact PySem.W.kia_tup Z I.kIn J h1 e (fun z => nomatch z) fun tk => ⟨.bl b, H, I.tok tk, rfl, q⟩
end L2.EV
set_option Elab.async false
set_option linter.all false
set_option maxRecDepth 100000
set_option maxHeartbeats 4000000
namespace L2.EV
open PySem PySem.Spec PyProof.Rows
/-! ### try: body, then several clauses 'except X as n', all with the one name n (slot i) -/
abbrev Suite : Type := Addr → Value → Option Addr → TS
/-- behind a suite its name is gone -/
def offI (i : Nat) (D : Ends) : Ends := { nx := fun σ H => D.nx (σ.set i none) H, rt := D.rt, bk := fun σ H => D.bk (σ.set i none) H, ct := fun σ H => D.ct (σ.set i none) H }
def wNmd (K : PySem.W.Frag) (i : Nat) (Wout : WX) (D : Ends) : List (Value × Suite) → WX
  | [] => Wout
  | q :: r => fun cls d σ H => ∃ b, PySem.W.exmOne K cls q.1 = some b ∧ if b = true then ∀ a, H a = none → q.2 a cls d (offI i D) (σ.set i (some (.ref a))) H else wNmd K i Wout D r cls d σ H
inductive Clauses (X : Cx) (n : Str) : List ExceptHandler → List (Value × Suite) → Prop
  | nil : Clauses X n [] []
  | cons {x : Str} {c : Value} {u : Suite} {s0 : Stmt} {ss : List Stmt} {p1 p2 : Pos} {hs : List ExceptHandler} {qs : List (Value × Suite)} (nm : Names X x c)
      (su : ∀ (a : Addr) (oe : Obj) (cls : Value) (d : Option Addr) (pn : List (Addr × Obj)), Zc cls d oe → (∃ vs, oe.data = .fields vs) → PSs (X.suite a ((a, oe) :: pn)) (s0 :: ss) (u a cls d)) (tl : Clauses X n hs qs) :
      Clauses X n (.ExceptHandler (some (.Name x p1)) (some n) (s0 :: ss) p2 :: hs) ((c, u) :: qs)
section
variable {X : Cx} {n : Str} {i : Nat} {Wout : WX}
/-- what stands when the clauses are looked at -/
structure Held (X : Cx) (pins : List (Addr × Obj)) (σ : St) (H : Hp) (a : Addr) (B : Heap) (cls : Value) (d : Option Addr) (sI s : Shared) : Prop where
  inv : Inv X pins σ H sI
  nb : ∀ b o, sI.heap.get? b = some o → b ∉ frs X.stack → B.get? b = some o
  up : sI.heap.UpToSlots s.heap
  na : H a = none
  os : s.os = sI.os
  ag : AllBare s.gens
  fl : HandSPX.FlyingZ B (X.env :: X.outer) a (Zc cls d) s.heap
theorem clauses_run (hs : X.stack = X.env :: X.outer) (hf : X.env.frame = some X.env.locals) (hN : X.N.Nodup) (hi : X.N[i]? = some n) (hl : X.env.kindOf n = some .local) (tk : Takes X Wout) {pins : List (Addr × Obj)} {σ : St} {H : Hp} {D : Ends} {a : Addr} {B : Heap}
    {cls : Value} {d : Option Addr} {sI s : Shared} (Z : Held X pins σ H a B cls d sI s) : ∀ {hds : List ExceptHandler} {qs : List (Value × Suite)}, Clauses X n hds qs → wNmd X.K i Wout D qs cls d σ H →
      wpAny (model X.prog X.w) X.A (handleBy (.ref a) X.env hds) (SP X pins D) X.xe s := by
  obtain ⟨J, nb, up, na, os, ag, fl⟩ := Z
  have okX := J.ok
  have J0 : Inv X pins σ H s := J.landed nb fl.1 up os ag
  have inFr : ∀ {h : Heap} {o : Obj} {vs : Array Value}, h.FunFrames B (X.env :: X.outer) → h.get? a = some o → o.data = .fields vs → a ∉ frs (X.env :: X.outer) := by
    intro h o vs g e z hm
    obtain ⟨_, o2, e2, hn⟩ := g.mem hm
    rw [e] at e2
    cases e2
    exact hn _ z
  obtain ⟨oe, vs, he, hz, hd⟩ := fl.there
  have noFr := inFr fl.2.2.1 he hd
  have hstk : ∀ {z : Env}, z ∈ X.env :: X.outer → ∀ {L : Addr}, z.frame = some L → L ∈ frs (X.env :: X.outer) := fun hz _ hL => List.mem_filterMap.mpr ⟨_, hz, hL⟩
  have noL : a ≠ X.env.locals := fun z => noFr (by rw [z]; exact hstk List.mem_cons_self hf)
  have noF : a ∉ X.fs := fun hm => by
    obtain ⟨e, m1, m2⟩ := List.mem_filterMap.mp hm
    exact noFr (hstk (List.mem_cons_of_mem _ m1) m2)
  intro hds qs K
  induction K with
  | nil =>
    intro w
    obtain ⟨_, _, _, oe2, vs2, T, oT, ts2, he2, hz2, hd2, h1, _⟩ := id fl
    refine wpAny_handleBy_nil ?_
    have last : wpAny (model X.prog X.w) X.A (setFlight (.ref a) X.env.frame) (fun _ t => wpAny (model X.prog X.w) X.A (throw (.ref a) : Sem Flow) (SP X pins D) X.xe t) X.xe s := by
      rw [hf]
      refine HandSPX.setFlight_upZ fl fun h4 hh4 up4 => wpAny_throw (tk _ _ ?_)
      refine ⟨a, B, sI, pins, σ, H, cls, d, rfl, J, nb, up.trans up4, .inr (.inr ?_), na, os, ag, w⟩
      rw [hs]
      exact hh4
    unfold PySem.passOn
    refine wpAny_bind (wpAny_field he2 hd2 h1 ?_)
    have noN : ¬ ((Value.ref T == Value.none) = true) := by simp
    rw [if_neg noN]
    first | exact wpAny_bind (wpAny_pure (wpAny_bind last)) | exact wpAny_bind last
  | @cons x c u s0 ss p1 p2 hs2 qs2 nm su tl ih =>
    rintro ⟨b, hb, w⟩
    have S0 := J0.suite he hd na noL noF
    have LT : PySem.W.Looks (model X.prog X.w) s.heap (typeOf (.ref a)) cls := fun A Q E t k q => wpAny_typeOf_ref (k _ _ he) (by rw [hz.1]; exact q)
    have LM := PySem.W.exm_one (M := model X.prog X.w) J0.kIn LT hb
    have named : ∀ {Q : Value → Shared → Prop} {E : Value → Shared → Prop}, Q c s → wpAny (model X.prog X.w) (X.A.mark (some (.ref a))) (eval (.Name x p1) X.env) Q E s := by
      intro Q E q
      obtain ⟨g1, g2, g3 | ⟨g3, g4, g5⟩⟩ := nm
      · exact ld_glob (X := X.suite a ((a, oe) :: (X.pn ++ pins))) S0 g1 g3 q g2
      · exact ld_blt (X := X.suite a ((a, oe) :: (X.pn ++ pins))) S0 g1 g3 g4 q g5 g2
    refine wpAny_handleBy_cons (codeAny_handlers_test (named (LM.here ?_))) (by intro q; cases q)
    cases b with
    | false =>
      rw [if_neg Bool.false_ne_true] at w
      exact ih w
    | true =>
      rw [if_pos rfl] at w
      refine codeAny_handlers_suite_as (HandSPX.lands_againZ fl fun h4 fl4 up4 => ?_)
      have J4 : Inv X pins σ H { s with heap := h4 } := J.landed nb fl4.1 (up.trans up4) os ag
      obtain ⟨oe4, vs4, he4, hz4, hd4⟩ := fl4.there
      have S4 := J4.suite he4 hd4 na noL noF
      refine store_ok (X := X.suite a ((a, oe4) :: (X.pn ++ pins))) (v := .ref a) S4 hN hi (.inl hl) rfl (fun s5 S5 => ?_) (.inr hl)
      refine wpAny_mono ((su a oe4 cls d (X.pn ++ pins) hz4 ⟨_, hd4⟩).run [] s5 _ H _ S5 (w a na)) (fun f s6 h6 => ?_) (fun _ _ z => z.elim)
      have leave : ∀ {σ6 : St} {H6 : Hp} {Q : Shared → Prop}, Inv (X.suite a ((a, oe4) :: (X.pn ++ pins))) [] σ6 H6 s6 → (∀ s7, Inv X pins (σ6.set i none) H6 s7 → Q s7) →
          wpAny (model X.prog X.w) X.A (do bindName X.env n .none; unbindBehindTheSuite X.env n p2) (fun _ s7 => Q s7) X.xe s6 := fun S6 hq => gone_ok (S6.unsuite okX) hN hi hl hq
      cases f with
      | ret v =>
        obtain ⟨v6, σ6, H6, S6, r6, q6⟩ := h6
        exact leave S6 fun s7 J7 => ⟨_, _, _, J7, r6, q6⟩
      | next =>
        obtain ⟨σ6, H6, S6, q6⟩ := h6
        exact leave S6 fun s7 J7 => ⟨_, _, J7, q6⟩
      | brk =>
        obtain ⟨σ6, H6, S6, q6⟩ := h6
        exact leave S6 fun s7 J7 => ⟨_, _, J7, q6⟩
      | cont =>
        obtain ⟨σ6, H6, S6, q6⟩ := h6
        exact leave S6 fun s7 J7 => ⟨_, _, J7, q6⟩
theorem ps_try_named {body : List Stmt} {h0 : ExceptHandler} {hds : List ExceptHandler} {qs : List (Value × Suite)} {pos : Pos} {tb : WX → TS} (hs : X.stack = X.env :: X.outer) (hf : X.env.frame = some X.env.locals) (hN : X.N.Nodup) (hi : X.N[i]? = some n)
    (hl : X.env.kindOf n = some .local) (tk : Takes X Wout)
    (hb : ∀ (W : WX) (pn : List (Addr × Obj)) (xe : Value → Shared → Prop), Takes (X.tr pn xe) W → PassesOwn (model X.prog X.w) X.A X.env xe → PSs (X.tr pn xe) body (tb W))
    (hc : Clauses X n (h0 :: hds) qs) : PS X (.Try body (h0 :: hds) [] [] pos) (fun D σ H => tb (wNmd X.K i Wout D qs) D σ H) := by
  refine ⟨fun pins s σ H D I h => wpAny_Try_except ?_⟩
  have okX := I.ok
  have hfr : X.A.frames = some (X.env :: X.outer) := okX.frames.trans (congrArg some hs)
  refine wpAny_mono ((hb (wNmd X.K i Wout D qs) (X.pn ++ pins) (fun e t1 => wpAny (model X.prog X.w) X.A (noteFrame e X.env) (fun _ t2 => wpAny (model X.prog X.w) X.A (setFlight e none) (fun _ t3 =>
    wpAny (model X.prog X.w) X.A (handleBy e X.env (h0 :: hds)) (SP X pins D) X.xe t3) X.xe t2) X.xe t1) (fun u s2 z => ?_) PassesOwn.looking).run [] s σ H D (I.toTry _) h) (fun f s1 z => ?_) (fun e s1 z => z)
  · obtain ⟨a, B, sI, pins2, σ2, H2, cls, d, rfl, J2, nb, up, sky, na, os, ag, w⟩ := z
    rw [show (X.tr (X.pn ++ pins) _).stack = X.env :: X.outer from hs] at sky
    show wpAny (model X.prog X.w) X.A (noteFrame (.ref a) X.env) _ _ _
    refine Sky.land Zc.steady hfr hf sky fun h3 fl3 up3 => ?_
    exact clauses_run (s := { s2 with heap := h3 }) hs hf hN hi hl tk ⟨J2.ofTry okX, nb, up.trans up3, na, os, ag, fl3⟩ hc w
  · cases f with
    | ret v =>
      obtain ⟨y, σ2, H2, J2, r, q⟩ := z
      exact ⟨y, σ2, H2, J2.ofTry okX, r, q⟩
    | next =>
      obtain ⟨σ2, H2, J2, q⟩ := z
      exact wpAny_execs_nil ⟨σ2, H2, J2.ofTry okX, q⟩
    | brk =>
      obtain ⟨σ2, H2, J2, q⟩ := z
      exact ⟨σ2, H2, J2.ofTry okX, q⟩
    | cont =>
      obtain ⟨σ2, H2, J2, q⟩ := z
      exact ⟨σ2, H2, J2.ofTry okX, q⟩
end
end L2.EV
set_option Elab.async false
set_option linter.all false
set_option maxRecDepth 100000
set_option maxHeartbeats 4000000
namespace L2.EV
open PySem PySem.Spec PyProof.Rows
/-! ### displays: constants, names, sums of whole numbers; tuples, lists, dicts of such -/
inductive T where
  | v (x : V)
  | sl (i : Nat)
  | op (f : Int → Int → Int) (a b : T)
  | tup (ts : List T)
  | lst (ts : List T)
  | dct (ks : List Key) (ts : List T)
mutual
/-- the names' values put in -/
inductive Val (σ : St) : T → T → Prop
  | v (x : V) : Val σ (.v x) (.v x)
  | sl {i : Nat} {x : V} : σ[i]? = some (some x) → Val σ (.sl i) (.v x)
  | op {f : Int → Int → Int} {a b : T} {i j : Int} : Val σ a (.v (.int i)) → Val σ b (.v (.int j)) → Val σ (.op f a b) (.v (.int (f i j)))
  | tup {ts us : List T} : Vls σ ts us → Val σ (.tup ts) (.tup us)
  | lst {ts us : List T} : Vls σ ts us → Val σ (.lst ts) (.lst us)
  | dct {ks : List Key} {ts us : List T} : Vls σ ts us → Val σ (.dct ks ts) (.dct ks us)
inductive Vls (σ : St) : List T → List T → Prop
  | nil : Vls σ [] []
  | cons {t u : T} {ts us : List T} : Val σ t u → Vls σ ts us → Vls σ (t :: ts) (u :: us)
end
mutual
/-- the value x lies in the heap as t -/
inductive Laid (H : Hp) : V → T → Prop
  | v (x : V) : Laid H x (.v x)
  | tup {a : Addr} {xs : List V} {ts : List T} : H a = some (.tup xs) → Lds H xs ts → Laid H (.ref a) (.tup ts)
  | lst {a : Addr} {xs : List V} {ts : List T} : H a = some (.lst xs) → Lds H xs ts → Laid H (.ref a) (.lst ts)
  | dct {a : Addr} {kvs : List (Key × V)} {ts : List T} : H a = some (.dK kvs) → Lds H (kvs.map (·.2)) ts → Laid H (.ref a) (.dct (kvs.map (·.1)) ts)
inductive Lds (H : Hp) : List V → List T → Prop
  | nil : Lds H [] []
  | cons {x : V} {t : T} {xs : List V} {ts : List T} : Laid H x t → Lds H xs ts → Lds H (x :: xs) (t :: ts)
end
mutual
theorem Laid.same {H H' : Hp} (s : Same H H') : ∀ {x : V} {t : T}, Laid H x t → Laid H' x t
  | _, _, .v x => .v x
  | _, _, .tup h t => .tup (s _ _ h) (Lds.same s t)
  | _, _, .lst h t => .lst (s _ _ h) (Lds.same s t)
  | _, _, .dct h t => .dct (s _ _ h) (Lds.same s t)
theorem Lds.same {H H' : Hp} (s : Same H H') : ∀ {xs : List V} {ts : List T}, Lds H xs ts → Lds H' xs ts
  | _, _, .nil => .nil
  | _, _, .cons h t => .cons (Laid.same s h) (Lds.same s t)
end
theorem Lds.length {H : Hp} : ∀ {xs : List V} {ts : List T}, Lds H xs ts → ts.length = xs.length
  | _, _, .nil => rfl
  | _, _, .cons _ t => congrArg Nat.succ t.length
theorem Lds.append {H : Hp} : ∀ {xs ys : List V} {ts us : List T}, Lds H xs ts → Lds H ys us → Lds H (xs ++ ys) (ts ++ us)
  | _, _, _, _, .nil, h => h
  | _, _, _, _, .cons h t, g => .cons h (t.append g)
theorem Lds.at {H : Hp} : ∀ {xs : List V} {ts : List T} {i : Nat} {x : V}, Lds H xs ts → xs[i]? = some x → ∃ t, ts[i]? = some t ∧ Laid H x t
  | _, _, 0, _, .cons h _, e => by
    cases e
    exact ⟨_, rfl, h⟩
  | _, _, i + 1, _, .cons _ t, e => Lds.at (i := i) t e
theorem Same.rfl' {H : Hp} : Same H H := fun _ _ e => e
theorem same_put {H : Hp} {p : Addr} {o : HO} (h : H p = none) : Same H (upd H p o) := fun b u e => by
  rw [upd_ne (ne_of_none e h)]
  exact e
/-- what is new in H' -/
def nw (H H' : Hp) : Hp := fun b => if (H b).isSome = true then none else H' b
theorem nw_some {H H' : Hp} {b : Addr} {o : HO} (h : nw H H' b = some o) : H b = none ∧ H' b = some o := by
  unfold nw at h
  cases e : H b with
  | none =>
    rw [e] at h
    exact ⟨rfl, h⟩
  | some u =>
    rw [e] at h
    cases h
theorem nw_of {H H' : Hp} {b : Addr} {o : HO} (h : H b = none) (h2 : H' b = some o) : nw H H' b = some o := by
  unfold nw
  rw [h]
  exact h2
theorem nw_old {H H' : Hp} : Same (nw H H') H' := fun _ _ e => (nw_some e).2
theorem nw_right {H H1 H2 : Hp} (s : Same H1 H2) : Same (nw H H1) (nw H H2) := fun b o e => nw_of (nw_some e).1 (s b o (nw_some e).2)
theorem nw_left {H H1 H2 : Hp} (s : Same H H1) : Same (nw H1 H2) (nw H H2) := fun b o e => nw_of (s.free (nw_some e).1) (nw_some e).2
/-- the heap without D -/
def hid (H : Hp) (D : Addr) : Hp := fun b => if b = D then none else H b
theorem hid_some {H : Hp} {D b : Addr} {o : HO} (h : hid H D b = some o) : b ≠ D ∧ H b = some o := by
  unfold hid at h
  split at h
  · cases h
  · next n => exact ⟨n, h⟩
theorem hid_of {H : Hp} {D b : Addr} {o : HO} (n : b ≠ D) (h : H b = some o) : hid H D b = some o := (if_neg n).trans h
theorem hid_old {H : Hp} {D : Addr} : Same (hid H D) H := fun _ _ e => (hid_some e).2
theorem hid_mono {H H' : Hp} {D : Addr} (s : Same H H') : Same (hid H D) (hid H' D) := fun b o e => hid_of (hid_some e).1 (s b o (hid_some e).2)
theorem hid_upd {H : Hp} {D : Addr} {o : HO} : hid (upd H D o) D = hid H D := by
  funext b
  unfold hid
  by_cases e : b = D
  · rw [if_pos e, if_pos e]
  · rw [if_neg e, if_neg e, upd_ne e]
theorem nw_hid {H H' : Hp} {D : Addr} {u : HO} (h : H D = some u) : Same (nw H H') (hid H' D) := fun b o e => hid_of (fun z => by
  have := (nw_some e).1
  rw [z, h] at this
  cases this) (nw_some e).2
/-- a display's reading: new objects, as told; all else stands -/
def tL (t : T) : TE := fun σ H Q => ∃ u, Val σ t u ∧ ∀ x H', Same H H' → Laid (nw H H') x u → Q x H'
def tLs (ts : List T) : TA := fun σ H Q => ∃ us, Vls σ ts us ∧ ∀ xs H', Same H H' → Lds (nw H H') xs us → Q xs H'
section
variable {X : Cx} {pos : Pos}
theorem pl_int {i : Int} {k : Nat} : PE X (.Constant (.int i) k pos) (tL (.v (.int i))) := PE.imp pe_int fun σ H Q ⟨_, h, q⟩ => by
  cases h
  exact q _ _ Same.rfl' (.v _)
theorem pl_str {x : Str} {k : Nat} : PE X (.Constant (.str x) k pos) (tL (.v (.str x))) := PE.imp pe_str fun σ H Q ⟨_, h, q⟩ => by
  cases h
  exact q _ _ Same.rfl' (.v _)
theorem pl_bl {b : Bool} {k : Nat} : PE X (.Constant (.bool b) k pos) (tL (.v (.bl b))) := PE.imp pe_bl fun σ H Q ⟨_, h, q⟩ => by
  cases h
  exact q _ _ Same.rfl' (.v _)
theorem pl_non {k : Nat} : PE X (.Constant .none k pos) (tL (.v .non)) := PE.imp pe_non fun σ H Q ⟨_, h, q⟩ => by
  cases h
  exact q _ _ Same.rfl' (.v _)
theorem pl_v (i : Nat) {x : Str} (hN : X.N[i]? = some x := by rfl) (hv : Vis X.env.scope x := by first | exact Or.inl rfl | exact Or.inr (Or.inl rfl) | exact Or.inr (Or.inr rfl)) (hd : (x == ("__debug__" : Str)) = false := by decide)
    (hcd : (x == ("__classdict__" : Str)) = false := by decide) : PE X (.Name x pos) (tL (.sl i)) := PE.imp (pv i hN hv hd hcd) fun σ H Q ⟨_, h, q⟩ => by
  cases h with
  | sl e => exact ⟨_, e, q _ _ Same.rfl' (.v _)⟩
theorem pl_add {a b : Expr} {ta tb : T} (ha : PE X a (tL ta)) (hb : PE X b (tL tb)) : PE X (.BinOp a .Add b pos) (tL (.op (· + ·) ta tb)) := PE.imp (pe_op op_add ha hb) fun σ H Q ⟨_, h, q⟩ => by
  cases h with
  | op h1 h2 =>
    refine ⟨_, h1, fun x H1 s1 l1 => ⟨_, h2, fun y H2 s2 l2 => ?_⟩⟩
    cases l1
    cases l2
    exact ⟨_, _, rfl, rfl, q _ _ (s1.trans s2) (.v _)⟩
theorem pl_sub {a b : Expr} {ta tb : T} (ha : PE X a (tL ta)) (hb : PE X b (tL tb)) : PE X (.BinOp a .Sub b pos) (tL (.op (· - ·) ta tb)) := PE.imp (pe_op op_sub ha hb) fun σ H Q ⟨_, h, q⟩ => by
  cases h with
  | op h1 h2 =>
    refine ⟨_, h1, fun x H1 s1 l1 => ⟨_, h2, fun y H2 s2 l2 => ?_⟩⟩
    cases l1
    cases l2
    exact ⟨_, _, rfl, rfl, q _ _ (s1.trans s2) (.v _)⟩
theorem pl_neg {i : Int} {k : Nat} {p : Pos} : PE X (.UnaryOp .USub (.Constant (.int i) k p) pos) (tL (.v (.int (-i)))) := PE.imp (pe_un un_neg pe_int) fun σ H Q ⟨_, h, q⟩ => by
  cases h
  exact ⟨_, rfl, q _ _ Same.rfl' (.v _)⟩
theorem pl_pow {i j : Int} {k l : Nat} {p r : Pos} (h0 : 0 ≤ j := by decide) (h1 : (Builtin.Int.intBits i : Int) * j ≤ 2 ^ 27 := by decide +kernel) : PE X (.BinOp (.Constant (.int i) k p) .Pow (.Constant (.int j) l r) pos) (tL (.v (.int (i ^ j.toNat)))) :=
  PE.imp (pe_op (r := rI (fun i j => 0 ≤ j ∧ (Builtin.Int.intBits i : Int) * j ≤ 2 ^ 27) fun i j => .int (i ^ j.toNat)) (opI fun _ _ _ _ _ _ _ hc q => pow_int hc.1 hc.2 q) pe_int pe_int) fun σ H Q ⟨_, h, q⟩ => by
    cases h
    exact ⟨_, _, rfl, rfl, ⟨h0, h1⟩, q _ _ Same.rfl' (.v _)⟩
theorem pla_nil : PA X [] (tLs []) := PA.imp pa_nil fun σ H Q ⟨_, h, q⟩ => by
  cases h
  exact q [] H Same.rfl' .nil
theorem pla_cons {e : Expr} {es : List Expr} {t : T} {ts : List T} (he : PE X e (tL t)) (hr : PA X es (tLs ts)) (hs : starEach (e :: es) X.env = (false, eval e X.env) :: starEach es X.env := by rfl) : PA X (e :: es) (tLs (t :: ts)) :=
  PA.imp (pa_cons he hr hs) fun σ H Q ⟨_, h, q⟩ => by
    cases h with
    | cons h1 h2 => exact ⟨_, h1, fun x H1 s1 l1 => ⟨_, h2, fun xs H2 s2 l2 => q _ _ (s1.trans s2) (.cons (l1.same (nw_right s2)) (l2.same (nw_left s1)))⟩⟩
theorem Vls.length {σ : St} : ∀ {ts us : List T}, Vls σ ts us → us.length = ts.length
  | _, _, .nil => rfl
  | _, _, .cons _ t => congrArg Nat.succ (Vls.length t)
theorem line_big {n : Nat} (h : n ≤ 1000) : n ≤ sizeLine := by
  rw [sizeLine_eq]
  omega
theorem pl_tup {es : List Expr} {ts : List T} {c : Nat} (h : PA X es (tLs ts)) (hz : ts.length ≤ 1000 := by decide) : PE X (.Tuple es c pos) (tL (.tup ts)) := PE.imp (pe_tup h) fun σ H Q ⟨_, g, q⟩ => by
  cases g with
  | tup g =>
    refine ⟨_, g, fun xs H1 s1 l => ⟨line_big (by rw [← l.length, g.length]; exact hz), fun p hp => ?_⟩⟩
    have s2 := same_put (o := .tup xs) hp
    exact q _ _ (s1.trans s2) (.tup (nw_of (s1.free hp) upd_same) (l.same (nw_right s2)))
theorem pl_lst {es : List Expr} {ts : List T} (h : PA X es (tLs ts)) (hz : ts.length ≤ 1000 := by decide) : PE X (.List es pos) (tL (.lst ts)) := PE.imp (pe_lst h) fun σ H Q ⟨_, g, q⟩ => by
  cases g with
  | lst g =>
    refine ⟨_, g, fun xs H1 s1 l => ⟨line_big (by rw [← l.length, g.length]; exact hz), fun p hp => ?_⟩⟩
    have s2 := same_put (o := .lst xs) hp
    exact q _ _ (s1.trans s2) (.lst (nw_of (s1.free hp) upd_same) (l.same (nw_right s2)))
theorem pl_d0 : PE X (.Dict [] [] pos) (tL (.dct [] [])) := PE.imp pe_dnewK fun σ H Q ⟨_, g, q⟩ => by
  cases g with
  | dct g =>
    cases g
    exact fun p hp => q _ _ (same_put hp) (Laid.dct (kvs := []) (nw_of hp upd_same) .nil)
theorem pl_d1 {k : Str} {l : Nat} {p : Pos} {e : Expr} {x : V} (he : PE X e (tL (.v x))) : PE X (.Dict [some (.Constant (.str k) l p)] [e] pos) (tL (.dct [.inr k] [.v x])) :=
  PE.imp (pe_disp (pps_cons pe_str he pps_nil) rfl rfl (fun z => by cases z) (by show 1 ≤ 15; decide)) fun σ H Q ⟨_, g, q⟩ => by
    cases g with
    | dct g =>
      cases g with
      | cons g1 g2 =>
        cases g1
        cases g2
        refine fun p hp => ⟨_, .v x, fun y H2 s2 l => ?_⟩
        cases l
        refine ⟨s2 _ _ upd_same, [(.inr k, x)], rfl, (by show 1 ≤ 15; decide), q _ _ (fun b o e => ?_) (Laid.dct (kvs := [(.inr k, x)]) (nw_of hp upd_same) (.cons (.v x) .nil))⟩
        have ne := ne_of_none e hp
        rw [upd_ne ne]
        exact s2 _ _ ((upd_ne ne).trans e)
end
end L2.EV
set_option Elab.async false
set_option linter.all false
set_option maxRecDepth 100000
set_option maxHeartbeats 4000000
namespace L2.K02
open PySem PySem.Spec PyProof.Rows L2.EV
def prog : Program := PySem.Challenge.pw_withinbooks_k02_whole_effects_and_worth
def top (i : Nat) : Stmt := prog.main.body.getD i (.Pass ⟨0, 0, 0, 0⟩)
abbrev FnP (K : PySem.W.Frag) (x : Str) (st : Stmt) (f : Addr) (fd : FuncData) : Prop := FunD K x x (defArgs st) (defBody st) (defScope st) [] [] f fd
/-! ### i ** j of greater i -/
theorem op_powX {X : Cx} : OpR X (binaryOp .Pow) (rI (fun i j => 0 ≤ j ∧ (Builtin.Int.intBits i : Int) * j ≤ 2 ^ 27) fun i j => .int (i ^ j.toNat)) :=
  opI fun _ _ _ _ _ _ _ hc q => pow_int hc.1 hc.2 q
/-! ### the mixing -/
abbrev sMix : Stmt := top 32
theorem scMix : FnScope ["_law_seed", "_law_turn", "_law_at", "_law_mixed_here"] ["_law_seed", "_law_turn", "_law_at"] (defScope sMix) := ⟨rfl, rfl, rfl, by decide +kernel, rfl, by decide +kernel, by decide +kernel⟩
def spMix : Sp := fun vs H Q _ => ∃ s t a : Int, vs = [.int s, .int t, .int a] ∧ (0 ≤ s ∧ s < 2 ^ 31) ∧ (0 ≤ t ∧ t < 2 ^ 60) ∧ (0 ≤ a ∧ a < 64) ∧ ∀ r : Int, 0 ≤ r → r < 2 ^ 31 → Q (.int r) H
section
variable {P : Program} {w : World} {K : PySem.W.Frag} {mg : Str → Option Value} {base : Heap} {f : Addr} {fd : FuncData}
theorem ok_mix (F : FnP K "_law_mixed" sMix f fd) (mI : mg "int" = none) : FnOk P w K mg base CX0 1 f fd ["_law_seed", "_law_turn", "_law_at"] spMix := by
  refine F.ok scMix (fun vs H Q E h => ?_) (fun cdv A outer s H vs Q E hr h => ?_)
  · obtain ⟨s, t, a, rfl, _⟩ := h
    rfl
  · obtain ⟨s, t, a, rfl, ⟨s0, s1⟩, ⟨t0, t1⟩, ⟨a0, a1⟩, k⟩ := h
    refine ⟨_, PSs.nox (pss_cons (ps_set (i := 3) scMix.nd rfl (Or.inl rfl) (pe_op op_add (pe_op op_mul (pv 0) pe_int) (pe_op op_mul (pe_op op_mul pe_int (pv 1)) (pv 1))))
      (pss_cons (ps_set (i := 3) scMix.nd rfl (Or.inl rfl) (pe_op op_mod (pe_callTy call_int1 (by rfl) mI (by decide +kernel) (pa_cons (pe_op op_add (pe_op op_add (pv 3) (pe_op op_mul pe_int (pv 2))) (pv 1)) pa_nil)) pe_int))
      (pss_cons (ps_set (i := 3) scMix.nd rfl (Or.inl rfl) (pe_op op_mod (pe_callTy call_int1 (by rfl) mI (by decide +kernel) (pa_cons (pe_op op_add (pe_op op_mul (pv 3) (pv 3)) pe_int) pa_nil)) pe_int))
      (pss_one (ps_ret (pe_op op_mod (pe_callTy call_int1 (by rfl) mI (by decide +kernel) (pa_cons (pe_op op_mul (pv 3) pe_int) pa_nil)) pe_int)))))), ?_⟩
    have md : ∀ (x n : Int), 0 < n → 0 ≤ x % n ∧ x % n < n := fun x n h => ⟨Int.emod_nonneg _ (by omega), Int.emod_lt_of_pos _ h⟩
    refine ⟨_, rfl, _, _, rfl, rfl, .inr ⟨by decide, by decide⟩, _, rfl, _, _, rfl, rfl, .inl ⟨by decide, by decide⟩, _, rfl, _, _, rfl, rfl, .inr ⟨by omega, by omega⟩, _, _, rfl, rfl, ?_⟩
    refine ⟨_, rfl, _, rfl, _, _, rfl, rfl, .inl ⟨by decide, by decide⟩, _, _, rfl, rfl, _, rfl, _, _, rfl, rfl, .inl ⟨_, rfl, _, _, rfl, rfl, (by show (0 : Int) < 2147483647; decide), ?_⟩⟩
    refine ⟨_, rfl, _, rfl, _, _, rfl, rfl, .inl ?_, _, _, rfl, rfl, .inl ⟨_, rfl, _, _, rfl, rfl, (by show (0 : Int) < 2147483629; decide), ?_⟩⟩
    · have z := md (s * 69069 + 104729 * t * t + 7919 * a + t) 2147483647 (by decide)
      exact ⟨by omega, by omega⟩
    refine ⟨_, rfl, _, _, rfl, rfl, .inr ⟨by decide, by decide⟩, .inl ⟨_, rfl, _, _, rfl, rfl, (by show (0 : Int) < 2147483587; decide), ?_⟩⟩
    have z := md ((((s * 69069 + 104729 * t * t + 7919 * a + t) % 2147483647 * ((s * 69069 + 104729 * t * t + 7919 * a + t) % 2147483647) + 40503) % 2147483629) * 48271) 2147483587 (by decide)
    exact k _ z.1 (Int.lt_trans z.2 (by decide))
end
end L2.K02
set_option Elab.async false
set_option linter.all false
set_option maxRecDepth 100000
set_option maxHeartbeats 4000000
namespace L2.K02
open PySem PySem.Spec PyProof.Rows L2.EV
/-! ### a purse: what is left of a great number, the seed, the turns taken (n draws at most), the place -/
def PurseAt (H : Hp) (p : Addr) (n : Nat) : Prop := ∃ c z t a : Int, H p = some (.lst [.int c, .int z, .int t, .int a]) ∧ (0 ≤ z ∧ z < 2 ^ 31) ∧ (0 ≤ t ∧ t ≤ 8 * n) ∧ (0 ≤ a ∧ a < 64)
/-- nothing but p is another thing -/
def But (p : Addr) (H H' : Hp) : Prop := ∀ b, b ≠ p → H' b = H b
theorem But.refl (p : Addr) (H : Hp) : But p H H := fun _ _ => rfl
theorem But.trans {p : Addr} {H H1 H2 : Hp} (a : But p H H1) (b : But p H1 H2) : But p H H2 := fun c h => (b c h).trans (a c h)
theorem but_upd {p : Addr} {H : Hp} {o : HO} : But p H (upd H p o) := fun _ h => upd_ne h
abbrev sDraw : Stmt := top 33
theorem scDraw : FnScope ["_law_purse_here", "_law_many", "_law_drawn", "_law_found", "_law_piece"] ["_law_purse_here", "_law_many"] (defScope sDraw) := ⟨rfl, rfl, rfl, by decide +kernel, rfl, by decide +kernel, by decide +kernel⟩
def spDraw : Sp := fun vs H Q _ => ∃ (p : Addr) (m : Int) (n : Nat), vs = [.ref p, .int m] ∧ (0 < m ∧ m < 2 ^ 200) ∧ PurseAt H p n ∧ n < 2 ^ 50 ∧
  ∀ (r : Int) (H' : Hp), 0 ≤ r → r < m → PurseAt H' p (n + 1) → But p H H' → Q (.int r) H'
section
variable {P : Program} {w : World} {K : PySem.W.Frag} {mg : Str → Option Value} {base : Heap} {f fM : Addr} {fd fdM : FuncData}
theorem ok_draw (F : FnP K "_law_draw" sDraw f fd) (FM : FnP K "_law_mixed" sMix fM fdM) (gM : mg "_law_mixed" = some (.ref fM)) (mI : mg "int" = none) (mR : mg "range" = none) :
    FnOk P w K mg base CX0 2 f fd ["_law_purse_here", "_law_many"] spDraw := by
  have GM : FnOk P w K mg base CX0 1 fM fdM ["_law_seed", "_law_turn", "_law_at"] spMix := ok_mix FM mI
  have bM : Binds K fdM ["_law_seed", "_law_turn", "_law_at"] [] := FM.bindsN fun _ _ _ _ _ _ us hl => match us, hl with | [_, _, _], _ => rfl
  refine F.ok scDraw (fun vs H Q E h => ?_) (fun cdv A outer s H vs Q E hr h => ?_)
  · obtain ⟨p, m, n, rfl, _⟩ := h
    rfl
  · obtain ⟨p, m, n, rfl, ⟨m0, m1⟩, ⟨c, z, t, a, hp, hz, ht, ha⟩, hn, k⟩ := h
    refine ⟨_, PSs.nox (pss_cons (ps_if (pt_cmpR op_gt (pe_ix ix_list (pv 0) pe_int (fun _ _ => rfl)) pe_int (nomark _))
        (pss_cons (ps_set (i := 2) scDraw.nd rfl (Or.inl rfl) (pe_op op_mod (pe_callTy call_int1 (by rfl) mI (by decide +kernel) (pa_cons (pe_ix ix_list (pv 0) pe_int (fun _ _ => rfl)) pa_nil)) (pv 1)))
        (pss_cons (ps_asg (pe_op op_fdivW (pe_ix ix_list (pv 0) pe_int (fun _ _ => rfl)) (pv 1)) (pg_sub (pv 0) pe_int set_list))
        (pss_one (ps_ret (pv 2))))) pss_nil)
      (pss_cons (ps_set (i := 3) scDraw.nd rfl (Or.inl rfl) pe_int)
      (pss_cons (ps_for PassesOwn.never rfl (pi_range1 (by rfl) mR (pa_cons (pe_op op_add pe_int (pe_op op_fdiv (pe_bits (pv 1)) pe_int)) pa_nil)) (pg_name (i := 4) scDraw.nd rfl (Or.inl rfl))
        (pss_cons (ps_asg (pe_op op_add (pe_ix ix_list (pv 0) pe_int (fun _ _ => rfl)) pe_int) (pg_sub (pv 0) pe_int set_list))
        (pss_one (ps_set (i := 3) scDraw.nd rfl (Or.inl rfl) (pe_op op_add (pe_op op_mul (pv 3) pe_int)
          (pe_call GM hr (by rfl) gM FM.kp bM .nil pass0 (pa_cons (pe_ix ix_list (pv 0) pe_int (fun _ _ => rfl)) (pa_cons (pe_ix ix_list (pv 0) pe_int (fun _ _ => rfl)) (pa_cons (pe_ix ix_list (pv 0) pe_int (fun _ _ => rfl)) pa_nil)))))))))
      (pss_one (ps_ret (pe_op op_mod (pe_callTy call_int1 (by rfl) mI (by decide +kernel) (pa_cons (pv 3) pa_nil)) (pv 1))))))), ?_⟩
    have it0 : ∀ {x0 x1 x2 x3 : V}, atI [x0, x1, x2, x3] 0 = some x0 := rfl
    have it1 : ∀ {x0 x1 x2 x3 : V}, atI [x0, x1, x2, x3] 1 = some x1 := rfl
    have it2 : ∀ {x0 x1 x2 x3 : V}, atI [x0, x1, x2, x3] 2 = some x2 := rfl
    have it3 : ∀ {x0 x1 x2 x3 : V}, atI [x0, x1, x2, x3] 3 = some x3 := rfl
    refine ⟨_, rfl, p, _, _, _, rfl, rfl, SqL.of hp, it0, _, _, rfl, rfl, _, rfl, ?_⟩
    refine ite2 (fun _ => ?_) (fun _ => ?_)
    · refine ⟨_, rfl, p, _, _, _, rfl, rfl, SqL.of hp, it0, .inl ⟨_, rfl, _, rfl, _, _, rfl, rfl, m0, ?_⟩⟩
      refine ⟨_, rfl, p, _, _, _, rfl, rfl, SqL.of hp, it0, _, rfl, _, _, rfl, rfl, wide_div (b := 200) m0 (by omega) (by decide) (by decide), ?_⟩
      refine ⟨_, rfl, p, _, _, 0, rfl, rfl, hp, rfl, _, rfl, ?_⟩
      exact k _ _ (Int.emod_nonneg _ (by omega)) (Int.emod_lt_of_pos _ m0) ⟨_, z, t, a, upd_same, hz, ⟨ht.1, by omega⟩, ha⟩ but_upd
    · have hbits : Builtin.Int.intBits m ≤ 200 := intBits_le (k := 200) (by omega)
      have hq : (0 : Int) ≤ (Builtin.Int.intBits m : Int) / 28 ∧ (Builtin.Int.intBits m : Int) / 28 ≤ 7 := ⟨by omega, by omega⟩
      refine ⟨_, rfl, m, rfl, _, _, rfl, rfl, ⟨by decide, by decide⟩, _, _, rfl, rfl, _, rfl, by omega, by omega, ?_⟩
      refine for_range (fun i σ H' => ∃ (fv : Int) (v4 : Option V), σ = [some (.ref p), some (.int m), none, some (.int fv), v4] ∧ H' p = some (.lst [.int c, .int z, .int (t + i), .int a]) ∧ But p H H')
        ⟨0, none, rfl, by simpa using hp, But.refl _ _⟩ ?_ ?_
      · rintro i σ H' hi ⟨fv, v4, rfl, h1, bt⟩
        have hi' : (i : Int) < 8 := by omega
        have h2 : upd H' p (.lst [.int c, .int z, .int (t + i + 1), .int a]) p = some (.lst [.int c, .int z, .int (t + i + 1), .int a]) := upd_same
        refine ⟨_, rfl, p, _, _, _, rfl, rfl, SqL.of h1, it2, _, _, rfl, rfl, _, rfl, p, _, _, 2, rfl, rfl, h1, rfl, ?_⟩
        refine ⟨_, rfl, _, _, rfl, rfl, .inr ⟨by decide, by decide⟩, ?_⟩
        refine ⟨_, rfl, p, _, _, _, rfl, rfl, SqL.of h2, it1, _, rfl, p, _, _, _, rfl, rfl, SqL.of h2, it2, _, rfl, p, _, _, _, rfl, rfl, SqL.of h2, it3, ?_⟩
        refine ⟨z, t + i + 1, a, rfl, hz, ⟨by omega, by omega⟩, ha, fun r r0 r1 => ?_⟩
        refine ⟨_, _, rfl, rfl, _, _, rfl, ?_, bt.trans but_upd⟩
        have e : t + (i : Int) + 1 = t + ((i + 1 : Nat) : Int) := by omega
        show upd H' p (HO.lst [V.int c, V.int z, V.int (t + (i : Int) + 1), V.int a]) p = _
        rw [upd_same, e]
      · rintro σ H' ⟨fv, v4, rfl, h1, bt⟩
        refine ⟨_, rfl, .inl ⟨_, rfl, _, rfl, _, _, rfl, rfl, m0, ?_⟩⟩
        exact k _ _ (Int.emod_nonneg _ (by omega)) (Int.emod_lt_of_pos _ m0) ⟨c, z, _, a, h1, hz, ⟨by omega, by omega⟩, ha⟩ bt
end
end L2.K02
set_option Elab.async false
set_option linter.all false
set_option maxRecDepth 100000
set_option maxHeartbeats 4000000
namespace L2.K02
open PySem PySem.Spec PyProof.Rows L2.EV
theorem same_upd {H : Hp} {p : Addr} {o : HO} (h : H p = none) : Same H (upd H p o) := fun b u e => by
  rw [upd_ne (ne_of_none e h)]
  exact e
theorem PurseAt.up {H : Hp} {p : Addr} {n m : Nat} (h : PurseAt H p n) (hm : n ≤ m) : PurseAt H p m := by
  obtain ⟨c, z, t, a, h1, h2, h3, h4⟩ := h
  exact ⟨c, z, t, a, h1, h2, ⟨h3.1, by omega⟩, h4⟩
theorem PurseAt.same {H H' : Hp} {p : Addr} {n : Nat} (h : PurseAt H p n) (s : Same H H') : PurseAt H' p n := by
  obtain ⟨c, z, t, a, h1, h2⟩ := h
  exact ⟨c, z, t, a, s _ _ h1, h2⟩
theorem PurseAt.but {H H' : Hp} {p q : Addr} {n : Nat} (h : PurseAt H p n) (s : But q H H') (ne : p ≠ q) : PurseAt H' p n := by
  obtain ⟨c, z, t, a, h1, h2⟩ := h
  exact ⟨c, z, t, a, (s p ne).trans h1, h2⟩
theorem PurseAt.some {H : Hp} {p : Addr} {n : Nat} (h : PurseAt H p n) : ∃ o, H p = some o := by
  obtain ⟨c, z, t, a, h1, h2⟩ := h
  exact ⟨_, h1⟩
/-! ### one purse -/
abbrev sPurse : Stmt := top 31
theorem scPurse : FnScope ["_law_script", "_law_at", "_law_seed"] ["_law_script", "_law_at"] (defScope sPurse) := ⟨rfl, rfl, rfl, by decide +kernel, rfl, by decide +kernel, by decide +kernel⟩
def spPurse (K : PySem.W.Frag) : Sp := fun vs H Q _ => ∃ (a : Addr) (ns : List Int) (i : Int), vs = [.ref a, .int i] ∧ SqL K H a (ns.map V.int) ∧ (0 ≤ i ∧ i < 64) ∧
  ∀ (p : Addr) (H' : Hp), PurseAt H' p 0 → Same H H' → H p = none → Q (.ref p) H'
theorem cutV_ints (ns : List Int) (lo hi : Option Int) : ∃ ms : List Int, cutV (ns.map V.int) lo hi = ms.map V.int :=
  ⟨(ns.drop (HT.sIx (ns.map V.int).length 0 lo)).take (HT.sIx (ns.map V.int).length (ns.map V.int).length hi - HT.sIx (ns.map V.int).length 0 lo), by
    unfold cutV
    rw [List.map_take, List.map_drop]⟩
section
variable {P : Program} {w : World} {K : PySem.W.Frag} {mg : Str → Option Value} {base : Heap} {f fP fD : Addr} {fd fdP fdD : FuncData}
theorem ok_purse (F : FnP K "_law_purse" sPurse f fd) (mS : mg "sum" = none) (mI : mg "int" = none) (mM : mg "max" = none) :
    FnOk P w K mg base CX0 1 f fd ["_law_script", "_law_at"] (spPurse K) := by
  refine F.ok scPurse (fun vs H Q E h => ?_) (fun cdv A outer s H vs Q E hr h => ?_)
  · obtain ⟨a, ns, i, rfl, _⟩ := h
    rfl
  · obtain ⟨a, ns, i, rfl, hS, hi, k⟩ := h
    refine ⟨_, PSs.nox (pss_cons (ps_set (i := 2) scPurse.nd rfl (Or.inl rfl) (pe_callB (cr_sum rfl) (by rfl) mS (by decide +kernel) (pa_cons (pe_slice sl_list (pv 0) (po_some (pv 1)) (po_some (pe_op op_add (pv 1) pe_int))) pa_nil)))
      (pss_one (ps_ret (pe_lst (pa_cons (pe_op op_mod (pe_callTy call_int1 (by rfl) mI (by decide +kernel) (pa_cons (pe_callB (call_max2 rfl) (by rfl) mM (by decide +kernel) (pa_cons (pe_op op_sub (pv 2) (pe_op op_powX pe_int pe_int)) (pa_cons pe_int pa_nil))) pa_nil)) (pe_op op_powX (pe_op op_powX pe_int pe_int) pe_int))
        (pa_cons (pe_op op_mod (pe_callTy call_int1 (by rfl) mI (by decide +kernel) (pa_cons (pv 2) pa_nil)) pe_int) (pa_cons pe_int (pa_cons (pv 1) pa_nil)))))))), ?_⟩
    obtain ⟨ms, hms⟩ := cutV_ints ns (some i) (some (i + 1))
    refine ⟨_, rfl, _, rfl, _, rfl, _, rfl, _, _, rfl, rfl, _, rfl, _, _, rfl, hS, fun l hl => ?_⟩
    have s1 := same_upd (o := .lst (cutV (ns.map V.int) (some i) (some (i + 1)))) hl
    refine ⟨l, ms, rfl, SqL.of (by rw [← hms]; exact upd_same), ?_⟩
    refine ⟨_, rfl, _, _, rfl, rfl, ⟨by decide, by decide +kernel⟩, _, _, rfl, rfl, _, _, rfl, .inl ⟨_, rfl, _, _, rfl, rfl, ⟨by decide, by decide +kernel⟩, _, _, rfl, rfl, ⟨by decide, by decide +kernel⟩, _, _, rfl, rfl, (by show (0 : Int) < ((10 : Int) ^ (60 : Int).toNat) ^ (8 : Int).toNat; decide +kernel), ?_⟩⟩
    refine ⟨_, rfl, .inl ⟨_, rfl, _, _, rfl, rfl, (by show (0 : Int) < 2147483629; decide), _, rfl, (by show 4 ≤ sizeLine; decide), fun p hp => ?_⟩⟩
    refine k p _ ⟨_, _, _, _, upd_same, ⟨Int.emod_nonneg _ (by decide), Int.lt_trans (Int.emod_lt_of_pos _ (by decide)) (by decide)⟩, ⟨by decide, by decide⟩, hi⟩ (s1.trans (same_upd hp)) (s1.free hp)
end
/-! ### the purses -/
abbrev sPurses : Stmt := top 34
abbrev nPurses : List Str := ["_law_script", "_law_few", "_law_at"]
theorem scPurses : FnScope nPurses ["_law_script", "_law_few"] (defScope sPurses) := ⟨rfl, rfl, rfl, by decide +kernel, rfl, by decide +kernel, by decide +kernel⟩
def spPurses (K : PySem.W.Frag) : Sp := fun vs H Q _ => ∃ (a : Addr) (ns : List Int) (c : Int), vs = [.ref a, .int c] ∧ SqL K H a (ns.map V.int) ∧ ns.length ≤ 63 ∧ (0 ≤ c ∧ c < 64) ∧
  ∀ (l : Addr) (ps : List Addr) (H' : Hp), ps.length ≤ 64 → H' l = some (.lst (ps.map V.ref)) → (∀ p ∈ ps, PurseAt H' p 0 ∧ p ≠ l) → Same H H' → Q (.ref l) H'
section
variable {P : Program} {w : World} {K : PySem.W.Frag} {mg : Str → Option Value} {base : Heap} {f fP fD : Addr} {fd fdP fdD : FuncData}
theorem ok_purses (F : FnP K "_law_purses" sPurses f fd) (FP : FnP K "_law_purse" sPurse fP fdP) (gP : mg "_law_purse" = some (.ref fP)) (mS : mg "sum" = none) (mI : mg "int" = none) (mM : mg "max" = none) (mN : mg "min" = none) (mL : mg "len" = none) (mR : mg "range" = none) :
    FnOk P w K mg base CX0 2 f fd ["_law_script", "_law_few"] (spPurses K) := by
  have GP : FnOk P w K mg base CX0 1 fP fdP ["_law_script", "_law_at"] (spPurse K) := ok_purse FP mS mI mM
  have bP : Binds K fdP ["_law_script", "_law_at"] [] := FP.bindsN fun _ _ _ _ _ _ us hl => match us, hl with | [_, _], _ => rfl
  refine F.ok scPurses (fun vs H Q E h => ?_) (fun cdv A outer s H vs Q E hr h => ?_)
  · obtain ⟨a, ns, c, rfl, _⟩ := h
    rfl
  · obtain ⟨a, ns, c, rfl, hS, hl63, hc, k⟩ := h
    refine ⟨_, PSs.nox (pss_one (ps_ret (pe_lc (own := [("_law_at", 2)]) (g := gName 2) (tt := tYes) (by rfl) scPurses.nd
      (pi_range1 (by rfl) mR (pa_cons (pe_callB (call_max2 rfl) (by rfl) mM (by decide +kernel) (pa_cons pe_int (pa_cons (pe_callB (call_min2 rfl) (by rfl) mN (by decide +kernel) (pa_cons (pv 1) (pa_cons (pe_callB call_len_seq (by rfl) mL PySem.boot_len (pa_cons (pv 0) pa_nil)) pa_nil))) pa_nil))) pa_nil))
      (blkOk_by (own := [("_law_at", 2)]) (N := nPurses) (sc := defScope sPurses) (by decide +kernel)) (fun _ _ _ _ _ => pg_name (i := 2) scPurses.nd rfl (Or.inl rfl)) (fun _ _ _ _ _ => pts_nil)
      (fun _ _ _ _ _ => pe_call GP hr (by rfl) gP FP.kp bP .nil pass0 (pa_cons (pv 0) (pa_cons (pv 2) pa_nil)))))), ?_⟩
    refine ⟨_, rfl, _, rfl, a, _, rfl, .inl hS, _, _, rfl, _, _, rfl, ?_⟩
    rw [List.length_map]
    generalize hj : (if (if (ns.length : Int) < c then (ns.length : Int) else c) > 1 then (if (ns.length : Int) < c then (ns.length : Int) else c) else 1) = j
    have hj1 : 1 ≤ j ∧ j ≤ 64 := by
      rw [← hj]
      split <;> split <;> omega
    refine ⟨j, rfl, by omega, by omega, fun D hD => ?_⟩
    refine lc_range (lo := 0) (n := j.toNat) (fun i H' => ∃ ps : List Addr, ps.length = i ∧ H' D = some (.lst (ps.map V.ref)) ∧ (∀ p ∈ ps, PurseAt H' p 0 ∧ p ≠ D) ∧ Same H H')
      ⟨[], rfl, upd_same, (fun _ z => absurd z List.not_mem_nil), same_upd hD⟩ ?_ ?_
    · rintro i H' hi ⟨ps, hlen, hl, hp, s1⟩
      refine ⟨rfl, ?_⟩
      dsimp only [tYes]
      rw [if_pos rfl]
      refine ⟨_, rfl, _, rfl, a, ns, _, rfl, s1.seq hS, ⟨by omega, by omega⟩, fun p H2 h1 s2 hn => ?_⟩
      have hl2 := s2 _ _ hl
      have ne : p ≠ D := by
        intro e
        rw [e, hl] at hn
        cases hn
      refine ⟨_, hl2, by rw [List.length_map, hlen]; exact small1000 (by omega), ps ++ [p], by simp [hlen], ?_, fun q hq => ?_, fun b o e => ?_⟩
      · rw [upd_same]
        simp
      · have nq : ∀ q, q ≠ D → PurseAt H2 q 0 → PurseAt (upd H2 D (.lst (ps.map V.ref ++ [.ref p]))) q 0 ∧ q ≠ D := fun q n h => ⟨h.but but_upd n, n⟩
        rcases List.mem_append.mp hq with z | z
        · exact nq q (hp q z).2 ((hp q z).1.same s2)
        · have e : q = p := by simpa using z
          subst e
          exact nq q ne h1
      · rw [upd_ne (ne_of_none e hD)]
        exact s2 _ _ (s1 _ _ e)
    · rintro H' ⟨ps, hlen, hl, hp, s1⟩
      exact k D ps H' (by omega) hl hp s1
end
end L2.K02
set_option Elab.async false
set_option linter.all false
set_option maxRecDepth 100000
set_option maxHeartbeats 4000000
namespace L2.K02
open PySem PySem.Spec PyProof.Rows L2.EV
/-! ### one of some -/
abbrev sOne : Stmt := top 35
theorem scOne : FnScope ["_law_purse_here", "_law_some"] ["_law_purse_here", "_law_some"] (defScope sOne) := ⟨rfl, rfl, rfl, by decide +kernel, rfl, by decide +kernel, by decide +kernel⟩
def spOne : Sp := fun vs H Q _ => ∃ (p l : Addr) (xs : List V) (n : Nat), vs = [.ref p, .ref l] ∧ H l = some (.lst xs) ∧ l ≠ p ∧ (0 < xs.length ∧ xs.length < 2 ^ 200) ∧ PurseAt H p n ∧ n < 2 ^ 50 ∧
  ∀ (i : Nat) (x : V) (H' : Hp), xs[i]? = some x → PurseAt H' p (n + 1) → But p H H' → Q x H'
section
variable {P : Program} {w : World} {K : PySem.W.Frag} {mg : Str → Option Value} {base : Heap} {f fD : Addr} {fd fdD : FuncData}
theorem ok_one (F : FnP K "_law_one_of" sOne f fd) (GD : FnOk P w K mg base CX0 2 fD fdD ["_law_purse_here", "_law_many"] spDraw) (bD : Binds K fdD ["_law_purse_here", "_law_many"] []) (kD : PySem.W.keepIn K (.ref fD) = true)
    (gD : mg "_law_draw" = some (.ref fD)) (mL : mg "len" = none) : FnOk P w K mg base CX0 3 f fd ["_law_purse_here", "_law_some"] spOne := by
  refine F.ok scOne (fun vs H Q E h => ?_) (fun cdv A outer s H vs Q E hr h => ?_)
  · obtain ⟨p, l, xs, n, rfl, _⟩ := h
    rfl
  · obtain ⟨p, l, xs, n, rfl, hl, ne, hx, hp, hn, k⟩ := h
    refine ⟨_, PSs.nox (pss_one (ps_ret (pe_ix ix_list (pv 1) (pe_call GD hr (by rfl) gD kD bD .nil pass0 (pa_cons (pv 0) (pa_cons (pe_callB call_len_seq (by rfl) mL PySem.boot_len (pa_cons (pv 1) pa_nil)) pa_nil))) (fun _ _ => rfl)))), ?_⟩
    refine ⟨_, rfl, _, rfl, _, rfl, l, xs, rfl, .inl (SqL.of hl), ?_⟩
    refine ⟨p, _, n, rfl, ⟨by omega, by omega⟩, hp, hn, fun r H' r0 r1 h1 bt => ?_⟩
    obtain ⟨i, rfl⟩ := Int.eq_ofNat_of_zero_le r0
    have hi : i < xs.length := by omega
    have hg : xs[i]? = some xs[i] := List.getElem?_eq_getElem hi
    exact ⟨l, xs, i, xs[i], rfl, rfl, SqL.of ((bt l ne).trans hl), atI_nat hg, k i _ H' hg h1 bt⟩
end
end L2.K02
set_option Elab.async false
set_option linter.all false
set_option maxRecDepth 100000
set_option maxHeartbeats 4000000
namespace L2.K02
open PySem PySem.Spec PyProof.Rows L2.EV
/-- all that was there stands as it stood, but p -/
def Old (p : Addr) (H H' : Hp) : Prop := ∀ b o, b ≠ p → H b = some o → H' b = some o
theorem Old.refl (p : Addr) (H : Hp) : Old p H H := fun _ _ _ e => e
theorem Old.trans {p : Addr} {H H1 H2 : Hp} (a : Old p H H1) (b : Old p H1 H2) : Old p H H2 := fun c o n e => b c o n (a c o n e)
theorem Old.of_but {p : Addr} {H H' : Hp} (b : But p H H') : Old p H H' := fun c o n e => (b c n).trans e
theorem Old.of_same {p : Addr} {H H' : Hp} (b : Same H H') : Old p H H' := fun c o _ e => b c o e
theorem Old.free {p q : Addr} {H H' : Hp} {o : HO} (b : Old p H H') (hp : H' p = some o) (h : H' q = none) : H q = none := by
  cases e : H q with
  | none => rfl
  | some u =>
    have ne : q ≠ p := fun z => by rw [z, hp] at h; cases h
    rw [b q u ne e] at h
    cases h
theorem PurseAt.upd_ne {H : Hp} {p q : Addr} {n : Nat} {o : HO} (h : PurseAt H p n) (ne : p ≠ q) : PurseAt (upd H q o) p n := h.but but_upd ne
/-- a def of the top that keeps a promise -/
structure Got (P : Program) (w : World) (K : PySem.W.Frag) (mg : Str → Option Value) (base : Heap) (k : Nat) (x : Str) (ps : List Str) (sp : Sp) : Prop where
  ex : ∃ f fd, FnOk P w K mg base CX0 k f fd ps sp ∧ Binds K fd ps [] ∧ PySem.W.keepIn K (.ref f) = true ∧ mg x = some (.ref f)
section
variable {X : Cx} {k j : Nat} {x : Str} {ps : List Str} {sp : Sp} {p pos : Pos} {e : Expr} {es : List Expr} {t : TA}
theorem pe_got (g : Got X.prog X.w X.K X.mg X.base k x ps sp) (hr : Room j X.A) (ha : PA X (e :: es) t) (hg : Gl X x := by rfl) (hk : k ≤ j := by decide) (hdb : (x == ("__debug__" : Str)) = false := by decide)
    (he : starEach (e :: es) X.env = (false, eval e X.env) :: starEach es X.env := by rfl) (hpl : (backTo pos (starEach es X.env)).any (·.1) = false := by rfl) : PE X (.Call (.Name x p) (e :: es) [] pos) (tCall sp [] E0 t) := by
  obtain ⟨f, fd, G, b, kp, m⟩ := g.ex
  exact pe_call G (hr.mono hk) hg m kp b .nil pass0 ha hdb he hpl
end
end L2.K02
set_option Elab.async false
set_option linter.all false
set_option maxRecDepth 100000
set_option maxHeartbeats 4000000
namespace L2.K02
open PySem PySem.Spec PyProof.Rows L2.EV
section
variable {K : PySem.W.Frag} {a b : Addr} {xs ys : List V} {g : TG} {tt : TT} {te : TE} {vs : List Nat} {σ : St} {H1 : Hp} {D : Addr} {Qd : Hp → Prop}
/-- a new list over the pairs of two lists of one length -/
theorem lc_pairsL (hl : xs.length = ys.length) (Pv : Nat → Hp → Prop) (h0 : Pv 0 (upd H1 D (.lst []))) (hq : ∀ i H, Pv i H → SqL K H a xs ∧ SqL K H b ys)
    (hs : ∀ i x y T H, xs[i]? = some x → ys[i]? = some y → Pv i H → H T = none → g (.ref T) (wipe σ vs) (upd H T (.tup [x, y])) fun σ2 H2 => wipe σ2 vs = wipe σ vs ∧ tt σ2 H2 fun c H3 =>
      if c = true then te σ2 H3 fun z H4 => ∃ acc, H4 D = some (.lst acc) ∧ acc.length < sizeLine ∧ Pv (i + 1) (upd H4 D (.lst (acc ++ [z]))) else Pv (i + 1) H3) (hd : ∀ H, Pv xs.length H → Qd H) :
    ∃ W : Nat → Nat → Hp → Prop, (∃ m, W 0 m (upd H1 D (.lst []))) ∧ ∀ i m H, W i m H →
      ((Itz K a b).stop i H ∧ Qd H) ∨ ((Itz K a b).go i H ∧ ∃ Nx : Hp → Prop, (∀ H', Nx H' → ∃ m', m' < m ∧ W (i + 1) m' H') ∧ ∀ x H', (Itz K a b).yld i H x H' → g x (wipe σ vs) H' fun σ2 H2 => wipe σ2 vs = wipe σ vs ∧ tt σ2 H2 fun c H3 =>
        if c = true then te σ2 H3 fun z H4 => ∃ acc, H4 D = some (.lst acc) ∧ acc.length < sizeLine ∧ Nx (upd H4 D (.lst (acc ++ [z]))) else Nx H3) := by
  refine ⟨fun i m H => m + i = xs.length ∧ Pv i H, ⟨xs.length, rfl, h0⟩, ?_⟩
  rintro i m H ⟨hm, p⟩
  obtain ⟨qa, qb⟩ := hq i H p
  rcases Nat.lt_or_ge i xs.length with hlt | hge
  · have ex : xs[i]? = some xs[i] := List.getElem?_eq_getElem hlt
    have ey : ys[i]? = some (ys[i]'(hl ▸ hlt)) := List.getElem?_eq_getElem _
    refine .inr ⟨⟨xs, ys, _, _, qa, qb, ex, ey⟩, Pv (i + 1), fun H' p' => ⟨xs.length - (i + 1), by omega, by omega, p'⟩, ?_⟩
    rintro v H' ⟨T, x, y, rfl, hT, rfl, fx, fy⟩
    exact hs i x y T H (fx xs qa) (fy ys qb) p hT
  · have e : i = xs.length := by omega
    rw [e] at p
    exact .inl ⟨⟨xs, ys, qa, qb, .inl hge⟩, hd H p⟩
/-- the same of two tuples -/
theorem lc_pairsT (hl : xs.length = ys.length) (Pv : Nat → Hp → Prop) (h0 : Pv 0 (upd H1 D (.lst []))) (hq : ∀ i H, Pv i H → SqT K H a xs ∧ SqT K H b ys)
    (hs : ∀ i x y T H, xs[i]? = some x → ys[i]? = some y → Pv i H → H T = none → g (.ref T) (wipe σ vs) (upd H T (.tup [x, y])) fun σ2 H2 => wipe σ2 vs = wipe σ vs ∧ tt σ2 H2 fun c H3 =>
      if c = true then te σ2 H3 fun z H4 => ∃ acc, H4 D = some (.lst acc) ∧ acc.length < sizeLine ∧ Pv (i + 1) (upd H4 D (.lst (acc ++ [z]))) else Pv (i + 1) H3) (hd : ∀ H, Pv xs.length H → Qd H) :
    ∃ W : Nat → Nat → Hp → Prop, (∃ m, W 0 m (upd H1 D (.lst []))) ∧ ∀ i m H, W i m H →
      ((RZ.ItzT K a b).stop i H ∧ Qd H) ∨ ((RZ.ItzT K a b).go i H ∧ ∃ Nx : Hp → Prop, (∀ H', Nx H' → ∃ m', m' < m ∧ W (i + 1) m' H') ∧ ∀ x H', (RZ.ItzT K a b).yld i H x H' → g x (wipe σ vs) H' fun σ2 H2 => wipe σ2 vs = wipe σ vs ∧ tt σ2 H2 fun c H3 =>
        if c = true then te σ2 H3 fun z H4 => ∃ acc, H4 D = some (.lst acc) ∧ acc.length < sizeLine ∧ Nx (upd H4 D (.lst (acc ++ [z]))) else Nx H3) := by
  refine ⟨fun i m H => m + i = xs.length ∧ Pv i H, ⟨xs.length, rfl, h0⟩, ?_⟩
  rintro i m H ⟨hm, p⟩
  obtain ⟨qa, qb⟩ := hq i H p
  rcases Nat.lt_or_ge i xs.length with hlt | hge
  · have ex : xs[i]? = some xs[i] := List.getElem?_eq_getElem hlt
    have ey : ys[i]? = some (ys[i]'(hl ▸ hlt)) := List.getElem?_eq_getElem _
    refine .inr ⟨⟨xs, ys, _, _, qa, qb, ex, ey⟩, Pv (i + 1), fun H' p' => ⟨xs.length - (i + 1), by omega, by omega, p'⟩, ?_⟩
    rintro v H' ⟨T, x, y, rfl, hT, rfl, fx, fy⟩
    exact hs i x y T H (fx xs qa) (fy ys qb) p hT
  · have e : i = xs.length := by omega
    rw [e] at p
    exact .inl ⟨⟨xs, ys, qa, qb, .inl hge⟩, hd H p⟩
end
end L2.K02
set_option Elab.async false
set_option linter.all false
set_option maxRecDepth 100000
set_option maxHeartbeats 4000000
namespace L2.K02
open PySem PySem.Spec PyProof.Rows L2.EV
/-! ### alike to the depth n -/
inductive Alk (H : Hp) : Nat → V → V → Prop
  | flat {n : Nat} {v : V} : flatV v = true → Alk H (n + 1) v v
  | lst {n : Nat} {a b : Addr} {xs ys : List V} : H a = some (.lst xs) → H b = some (.lst ys) → xs.length = ys.length → xs.length ≤ 900 → (∀ (i : Nat) (x y : V), xs[i]? = some x → ys[i]? = some y → Alk H n x y) → Alk H (n + 1) (.ref a) (.ref b)
  | dct {n : Nat} {a b : Addr} {kvs : List (Key × V)} : H a = some (.dK kvs) → H b = some (.dK kvs) → kvs.length ≤ 900 → (∀ p ∈ kvs, flatV p.2 = true) → Alk H (n + 3) (.ref a) (.ref b)
  | tup {n : Nat} {a b : Addr} {xs ys : List V} : H a = some (.tup xs) → H b = some (.tup ys) → xs.length = ys.length → xs.length ≤ 900 → (∀ (i : Nat) (x y : V), xs[i]? = some x → ys[i]? = some y → Alk H n x y) → Alk H (n + 1) (.ref a) (.ref b)
theorem Alk.same {H H' : Hp} (s : Same H H') : ∀ {n : Nat} {x y : V}, Alk H n x y → Alk H' n x y := fun {n x y} h => by
  induction h with
  | flat h => exact .flat h
  | lst h1 h2 h3 h4 _ ih => exact .lst (s _ _ h1) (s _ _ h2) h3 h4 ih
  | tup h1 h2 h3 h4 _ ih => exact .tup (s _ _ h1) (s _ _ h2) h3 h4 ih
  | dct h1 h2 h3 h4 => exact .dct (s _ _ h1) (s _ _ h2) h3 h4
theorem any_tt {K : PySem.W.Frag} {T : String} {b c : Bool} (h1 : kitB T "list" = some b) (h2 : kitB T "tuple" = some c) : PySem.W.kitAny K (.type T) [.type "list", .type "tuple"] = some (b || c) := by
  refine kitAny_cons (kit_ty h1) (fun hb => ?_) (fun hb => by rw [hb]; rfl)
  refine kitAny_cons (kit_ty h2) (fun hc => ?_) (fun hc => by rw [hb, hc]; rfl)
  rw [hb, hc]
  exact kitAny_nil
abbrev sEx : Stmt := top 36
abbrev pEx : List Str := ["_law_one", "_law_other"]
abbrev nEx : List Str := ["_law_one", "_law_other", "_law_alike", "_law_a", "_law_b", "_law_key"]
theorem scEx : FnScope nEx pEx (defScope sEx) := ⟨rfl, rfl, rfl, by decide +kernel, rfl, by decide +kernel, by decide +kernel⟩
def spEx (n : Nat) : Sp := fun vs H Q _ => ∃ x y, vs = [x, y] ∧ Alk H n x y ∧ ∀ H', Same H H' → Q (.bl true) H'
section
variable {P : Program} {w : World} {K : PySem.W.Frag} {mg : Str → Option Value} {base : Heap} {f : Addr} {fd : FuncData}
theorem ok_ex_step {n : Nat} (F : FnP K "_law_exact" sEx f fd) (G : Got P w K mg base (n + 1) "_law_exact" pEx (spEx n)) (mIs : mg "isinstance" = none) (mL : mg "len" = none) (mA : mg "all" = none) (mZ : mg "zip" = none) (mLi : mg "list" = none) (mT : mg "tuple" = none) (mD : mg "dict" = none) (mB : mg "bool" = none) :
    FnOk P w K mg base CX0 (n + 2) f fd pEx (spEx (n + 1)) := by
  refine F.ok scEx (fun vs H Q E h => ?_) (fun cdv A outer s H vs Q E hr h => ?_)
  · obtain ⟨x, y, rfl, _⟩ := h
    rfl
  · obtain ⟨x, y, rfl, hA, k⟩ := h
    have hu1 := hu_of hr
    have tl : ∀ {X : Cx} {p : Pos}, X.mg = mg → Gl X "list" → PE X (.Name "list" p) (tC (.ty "list")) := fun {X p} e g => pe_bltn (v := .ty "list") (u := .type "list") g (by rw [e]; exact mLi) (by decide +kernel) rfl
    have tt : ∀ {X : Cx} {p : Pos}, X.mg = mg → Gl X "tuple" → PE X (.Name "tuple" p) (tC (.ty "tuple")) := fun {X p} e g => pe_bltn (v := .ty "tuple") (u := .type "tuple") g (by rw [e]; exact mT) (by decide +kernel) rfl
    have td : ∀ {X : Cx} {p : Pos}, X.mg = mg → Gl X "dict" → PE X (.Name "dict" p) (tC (.ty "dict")) := fun {X p} e g => pe_bltn (v := .ty "dict") (u := .type "dict") g (by rw [e]; exact mD) (by decide +kernel) rfl
    have tb : ∀ {X : Cx} {p : Pos}, X.mg = mg → Gl X "bool" → PE X (.Name "bool" p) (tC (.ty "bool")) := fun {X p} e g => pe_bltn (v := .ty "bool") (u := .type "bool") g (by rw [e]; exact mB) (by decide +kernel) rfl
    refine ⟨_, PSs.nox (pss_cons (ps_if (pt_val (pe_callB call_isiT (by rfl) mIs (by decide +kernel) (pa_cons (pv 0) (pa_cons (pe_tup (pa_cons (tl rfl (by rfl)) (pa_cons (tt rfl (by rfl)) pa_nil))) pa_nil))))
        (pss_cons (ps_set (i := 2) scEx.nd rfl (Or.inl rfl) (pe_and (pe_cmpR op_eq (pe_callB call_isi (by rfl) mIs (by decide +kernel) (pa_cons (pv 1) (pa_cons (tl rfl (by rfl)) pa_nil))) (pe_callB call_isi (by rfl) mIs (by decide +kernel) (pa_cons (pv 0) (pa_cons (tl rfl (by rfl)) pa_nil))) (nomark _))
            (pe_one (pe_cmpR op_eq (pe_callB call_isi (by rfl) mIs (by decide +kernel) (pa_cons (pv 1) (pa_cons (tt rfl (by rfl)) pa_nil))) (pe_callB call_isi (by rfl) mIs (by decide +kernel) (pa_cons (pv 0) (pa_cons (tt rfl (by rfl)) pa_nil))) (nomark _)))))
          (pss_one (ps_ret (pe_and (pv 2) (pe_and (pe_cmpR op_eq (pe_callB call_len_seq (by rfl) mL PySem.boot_len (pa_cons (pv 0) pa_nil)) (pe_callB call_len_seq (by rfl) mL PySem.boot_len (pa_cons (pv 1) pa_nil)) (nomark _))
            (pe_one (pe_callB (cr_all rfl) (by rfl) mA (by decide +kernel) (pa_cons
              (pe_lc (own := [("_law_a", 3), ("_law_b", 4)]) (g := gTup K 2 (gCons (gName 3) (gCons (gName 4) gNil))) (tt := tYes) (by rfl) scEx.nd (RZ.pi_zipA (by rfl) mZ (pa_cons (pv 0) (pa_cons (pv 1) pa_nil)))
                (blkOk_by (own := [("_law_a", 3), ("_law_b", 4)]) (N := nEx) (sc := defScope sEx) (by decide +kernel))
                (fun _ _ _ _ _ => pg_tup rfl (pgs_cons (pg_name (i := 3) scEx.nd rfl (Or.inl rfl)) (pgs_cons (pg_name (i := 4) scEx.nd rfl (Or.inl rfl)) pgs_nil))) (fun _ _ _ _ _ => pts_nil) (fun _ _ _ _ _ => pe_got G hr (pa_cons (pv 3) (pa_cons (pv 4) pa_nil)) (by rfl) (Nat.le_refl _))) pa_nil)))))))) pss_nil)
      (pss_cons (ps_if (pt_val (pe_callB call_isi (by rfl) mIs (by decide +kernel) (pa_cons (pv 0) (pa_cons (td rfl (by rfl)) pa_nil))))
        (pss_cons (ps_set (i := 2) scEx.nd rfl (Or.inl rfl) (pe_and (pe_callB call_isi (by rfl) mIs (by decide +kernel) (pa_cons (pv 1) (pa_cons (td rfl (by rfl)) pa_nil)))
            (pe_one (pe_got G hr (pa_cons (pe_callTy (call_list_dK rfl) (by rfl) mLi (by decide +kernel) (pa_cons (pv 0) pa_nil)) (pa_cons (pe_callTy (call_list_dK rfl) (by rfl) mLi (by decide +kernel) (pa_cons (pv 1) pa_nil)) pa_nil)) (by rfl) (Nat.le_refl _)))))
          (pss_one (ps_ret (pe_and (pv 2) (pe_one (pe_callB (cr_all rfl) (by rfl) mA (by decide +kernel) (pa_cons
              (pe_lock (pe_lc (own := [("_law_key", 5)]) (g := gName 5) (tt := tYes) (by rfl) scEx.nd (pi_keys (pv 0)) (blkOk_by (own := [("_law_key", 5)]) (N := nEx) (sc := defScope sEx) (by decide +kernel))
                (fun _ _ _ _ _ => pg_name (i := 5) scEx.nd rfl (Or.inl rfl)) (fun _ _ _ _ _ => pts_nil) (fun _ _ _ _ _ => pe_got G hr (pa_cons (pe_dget hu1 (pv 0) (pv 5) (fun _ _ => rfl)) (pa_cons (pe_dget hu1 (pv 1) (pv 5) (fun _ _ => rfl)) pa_nil)) (by rfl) (Nat.le_refl _)))) pa_nil))))))) pss_nil)
      (pss_one (ps_ret (pe_and (pe_cmpR op_eq (pe_callB call_isi (by rfl) mIs (by decide +kernel) (pa_cons (pv 0) (pa_cons (tb rfl (by rfl)) pa_nil))) (pe_callB call_isi (by rfl) mIs (by decide +kernel) (pa_cons (pv 1) (pa_cons (tb rfl (by rfl)) pa_nil))) (nomark _))
        (pe_one (pe_cmpR op_eq (pv 0) (pv 1) (nomark _)))))))), ?_⟩
    cases hA with
    | flat hf =>
      obtain ⟨T, c, ty, h1, h2, h3, h4, hs⟩ : ∃ (T : String) (c : Bool), (∀ H', TyX K H' x (.type T)) ∧ kitB T "list" = some false ∧ kitB T "tuple" = some false ∧ kitB T "dict" = some false ∧ kitB T "bool" = some c ∧ scal x x = true := by
        cases x with
        | non => exact ⟨_, _, fun _ => .base .non, by decide +kernel, by decide +kernel, by decide +kernel, (by decide +kernel : kitB "NoneType" "bool" = some false), rfl⟩
        | bl b => exact ⟨_, _, fun _ => .base (.bl b), by decide +kernel, by decide +kernel, by decide +kernel, (by decide +kernel : kitB "bool" "bool" = some true), rfl⟩
        | int b => exact ⟨_, _, fun _ => .base (.int b), by decide +kernel, by decide +kernel, by decide +kernel, (by decide +kernel : kitB "int" "bool" = some false), rfl⟩
        | str b => exact ⟨_, _, fun _ => .base (.str b), by decide +kernel, by decide +kernel, by decide +kernel, (by decide +kernel : kitB "str" "bool" = some false), rfl⟩
        | _ => cases hf
      refine ⟨_, rfl, (by show 2 ≤ sizeLine; decide), fun tp htp => ?_⟩
      have s1 := same_upd (o := .tup [.ty "list", .ty "tuple"]) htp
      refine ⟨x, tp, _, .type T, [.type "list", .type "tuple"], _, rfl, upd_same, .cons (.ty _) (.cons (.ty _) .nil), ty _, any_tt h1 h2, _, rfl, iteF ?_⟩
      refine ⟨_, rfl, x, .ty "dict", _, _, false, rfl, .ty _, ty _, kit_ty h3, _, rfl, iteF ?_⟩
      refine ⟨_, rfl, x, .ty "bool", _, _, c, rfl, .ty _, ty _, kit_ty h4, _, rfl, x, .ty "bool", _, _, c, rfl, .ty _, ty _, kit_ty h4, (by cases c <;> rfl), _, rfl, ?_⟩
      rw [decide_eq_true rfl]
      refine iteT ⟨_, rfl, _, rfl, hs, ?_⟩
      rw [decide_eq_true rfl]
      exact k _ s1
    | @lst _ a b xs ys ha hb hl hz hs =>
      refine ⟨_, rfl, (by show 2 ≤ sizeLine; decide), fun tp htp => ?_⟩
      have s1 := same_upd (o := .tup [.ty "list", .ty "tuple"]) htp
      have ta : TyX K (upd H tp (.tup [.ty "list", .ty "tuple"])) (.ref a) (.type "list") := .base (.lst (s1 _ _ ha))
      have tb' : TyX K (upd H tp (.tup [.ty "list", .ty "tuple"])) (.ref b) (.type "list") := .base (.lst (s1 _ _ hb))
      have kl : kitB "list" "list" = some true := by decide +kernel
      have kt : kitB "list" "tuple" = some false := by decide +kernel
      refine ⟨.ref a, tp, _, .type "list", [.type "list", .type "tuple"], _, rfl, upd_same, .cons (.ty _) (.cons (.ty _) .nil), ta, any_tt kl kt, _, rfl, iteT ?_⟩
      have ha1 := s1 _ _ ha
      have hb1 := s1 _ _ hb
      generalize upd H tp (.tup [.ty "list", .ty "tuple"]) = H1 at s1 ta tb' ha1 hb1
      refine ⟨_, rfl, .ref b, .ty "list", _, _, _, rfl, .ty _, tb', kit_ty kl, _, rfl, .ref a, .ty "list", _, _, _, rfl, .ty _, ta, kit_ty kl, rfl, _, rfl, ?_⟩
      rw [decide_eq_true rfl]
      refine iteT ⟨_, rfl, .ref b, .ty "tuple", _, _, _, rfl, .ty _, tb', kit_ty kt, _, rfl, .ref a, .ty "tuple", _, _, _, rfl, .ty _, ta, kit_ty kt, rfl, ?_⟩
      refine ⟨_, rfl, _, rfl, ?_⟩
      rw [decide_eq_true rfl]
      refine iteT ⟨_, rfl, a, xs, rfl, .inl (SqL.of ha1), _, rfl, b, ys, rfl, .inl (SqL.of hb1), rfl, _, rfl, ?_⟩
      rw [hl, decide_eq_true rfl]
      refine iteT ⟨_, rfl, _, rfl, a, b, xs, ys, rfl, .inl ⟨SqL.of ha1, SqL.of hb1, fun D hD => ?_⟩⟩
      refine lc_pairsL hl (fun i H' => Same H1 H' ∧ H' D = some (.lst ((List.replicate i true).map V.bl))) ⟨same_upd hD, upd_same⟩ (fun i H' ⟨sA, _⟩ => ⟨SqL.of (sA _ _ ha1), SqL.of (sA _ _ hb1)⟩) ?_ ?_
      · rintro i u v T H' hu hv ⟨sA, gA⟩ hT
        have sT := same_upd (o := .tup [u, v]) hT
        refine ⟨T, _, rfl, SqT.of upd_same, rfl, _, _, rfl, _, _, rfl, rfl, rfl, ?_⟩
        dsimp only [tYes]
        rw [if_pos rfl]
        refine ⟨_, rfl, _, rfl, u, v, rfl, Alk.same (s1.trans (sA.trans sT)) (hs i u v hu hv), fun H2 s2 => ?_⟩
        refine ⟨_, s2 _ _ (sT _ _ gA), ?_, fun c o e => ?_, ?_⟩
        · rw [List.length_map, List.length_replicate]
          have : i < xs.length := (List.getElem?_eq_some_iff.mp hu).1
          exact small1000 (by omega)
        · rw [upd_ne (ne_of_none e hD)]
          exact s2 _ _ (sT _ _ (sA _ _ e))
        · rw [upd_same, List.replicate_succ', List.map_append]
          rfl
      · rintro H2 ⟨sA, gA⟩
        refine ⟨D, List.replicate xs.length true, rfl, SqL.of gA, ?_⟩
        rw [show (List.replicate xs.length true).all id = true by simp]
        exact k _ (s1.trans sA)
    | @dct m a b kvs ha hb hn hf =>
      refine ⟨_, rfl, (by show 2 ≤ sizeLine; decide), fun tp htp => ?_⟩
      have s1 := same_upd (o := .tup [.ty "list", .ty "tuple"]) htp
      have ta : TyX K (upd H tp (.tup [.ty "list", .ty "tuple"])) (.ref a) (.type "dict") := .base (.dK (s1 _ _ ha))
      have tb' : TyX K (upd H tp (.tup [.ty "list", .ty "tuple"])) (.ref b) (.type "dict") := .base (.dK (s1 _ _ hb))
      have kl : kitB "dict" "list" = some false := by decide +kernel
      have kt : kitB "dict" "tuple" = some false := by decide +kernel
      have kd : kitB "dict" "dict" = some true := by decide +kernel
      refine ⟨.ref a, tp, _, .type "dict", [.type "list", .type "tuple"], _, rfl, upd_same, .cons (.ty _) (.cons (.ty _) .nil), ta, any_tt kl kt, _, rfl, iteF ?_⟩
      have ha1 := s1 _ _ ha
      have hb1 := s1 _ _ hb
      generalize upd H tp (.tup [.ty "list", .ty "tuple"]) = H1 at s1 ta tb' ha1 hb1
      refine ⟨_, rfl, .ref a, .ty "dict", _, _, true, rfl, .ty _, ta, kit_ty kd, _, rfl, iteT ?_⟩
      refine ⟨_, rfl, .ref b, .ty "dict", _, _, true, rfl, .ty _, tb', kit_ty kd, _, rfl, iteT ?_⟩
      refine ⟨_, rfl, a, kvs, rfl, ha1, fun l1 n1 => ?_⟩
      have s2 := same_upd (o := .lst (kvs.map fun kv => kV kv.1)) n1
      have g1 : upd H1 l1 (.lst (kvs.map fun kv => kV kv.1)) l1 = some (.lst (kvs.map fun kv => kV kv.1)) := upd_same
      generalize upd H1 l1 (.lst (kvs.map fun kv => kV kv.1)) = H2 at s2 g1
      refine ⟨_, rfl, b, kvs, rfl, s2 _ _ hb1, fun l2 n2 => ?_⟩
      have s3 := same_upd (o := .lst (kvs.map fun kv => kV kv.1)) n2
      have g2 : upd H2 l2 (.lst (kvs.map fun kv => kV kv.1)) l2 = some (.lst (kvs.map fun kv => kV kv.1)) := upd_same
      generalize upd H2 l2 (.lst (kvs.map fun kv => kV kv.1)) = H3 at s3 g2
      have fk : ∀ k : Key, flatV (kV k) = true := fun k => by cases k <;> rfl
      refine ⟨_, _, rfl, .lst (s3 _ _ g1) g2 rfl (by rw [List.length_map]; exact hn) (fun i x y hx hy => ?_), fun H4 s4 => ?_⟩
      · rw [hx] at hy
        cases hy
        rw [List.getElem?_map] at hx
        cases e : kvs[i]? with
        | none => rw [e] at hx; cases hx
        | some kv =>
          rw [e] at hx
          obtain rfl : kV kv.1 = x := Option.some.inj hx
          exact .flat (fk kv.1)
      have s14 : Same H1 H4 := s2.trans (s3.trans s4)
      refine ⟨_, rfl, _, rfl, iteT ?_⟩
      refine ⟨a, _, s14 _ _ ha1, trivial, fun od => ?_⟩
      have hba : upd H4 a (.frz od (.dK kvs)) b = some (.dK kvs) ∨ b = a := by
        by_cases e : b = a
        · exact .inr e
        · exact .inl ((upd_ne e).trans (s14 _ _ hb1))
      have hla : upd H4 a (.frz od (.dK kvs)) a = some (.frz od (.dK kvs)) := upd_same
      have ho : ∀ c o, c ≠ a → H4 c = some o → upd H4 a (.frz od (.dK kvs)) c = some o := fun c o n e => (upd_ne n).trans e
      have hfr : ∀ c, upd H4 a (.frz od (.dK kvs)) c = none → H4 c = none ∧ c ≠ a := fun c e => by
        by_cases n : c = a
        · rw [n, hla] at e
          cases e
        · exact ⟨(upd_ne n).symm.trans e, n⟩
      generalize upd H4 a (.frz od (.dK kvs)) = HL at hba hla ho hfr
      refine ⟨_, rfl, a, od, rfl, .inl ⟨kvs, hla, fun D hD => ?_⟩⟩
      refine lc_it (walk_keys (d := a) (o := od) (kvs := kvs)) (fun i H' => Same HL H' ∧ H' D = some (.lst ((List.replicate i true).map V.bl))) ⟨same_upd hD, upd_same⟩ (fun i H' _ ⟨sA, _⟩ => sA _ _ hla) ?_ ?_
      · rintro i x H' H'' hi ⟨sA, gA⟩ ⟨rfl, k, v, hk, rfl⟩
        have hg : ∃ u, valV kvs k = some u ∧ flatV u = true := by
          have h1 : (valV kvs k).isSome = true := by
            rw [← valV_any]
            exact List.any_eq_true.mpr ⟨(k, v), List.mem_of_getElem? hk, by simp⟩
          obtain ⟨u, hu⟩ := Option.isSome_iff_exists.mp h1
          refine ⟨u, hu, ?_⟩
          unfold valV at hu
          cases e : kvs.find? fun kv => decide (kv.1 = k) with
          | none => rw [e] at hu; cases hu
          | some q =>
            rw [e] at hu
            obtain rfl : q.2 = u := Option.some.inj hu
            exact hf q (List.mem_of_find?_eq_some e)
        obtain ⟨u, hu, fu⟩ := hg
        have dA : DGet H'' a (kV k) (some u) := .inl ⟨kvs, k, .inr ⟨od, sA _ _ hla⟩, rfl, hu.symm⟩
        have dB : DGet H'' b (kV k) (some u) := by
          rcases hba with e | e
          · exact .inl ⟨kvs, k, .inl (sA _ _ e), rfl, hu.symm⟩
          · rw [e]
            exact dA
        refine ⟨rfl, ?_⟩
        dsimp only [tYes]
        rw [if_pos rfl]
        refine ⟨_, rfl, _, rfl, a, u, rfl, dA, _, rfl, _, rfl, b, u, rfl, dB, u, u, rfl, .flat fu, fun H6 s6 => ?_⟩
        refine ⟨_, s6 _ _ gA, ?_, fun c o e => ?_, ?_⟩
        · rw [List.length_map, List.length_replicate]
          exact small1000 (by omega)
        · rw [upd_ne (ne_of_none e hD)]
          exact s6 _ _ (sA _ _ e)
        · rw [upd_same, List.replicate_succ', List.map_append]
          rfl
      · rintro H5 ⟨sA, gA⟩
        have nDa : D ≠ a := (ne_of_none hla hD).symm
        refine ⟨sA _ _ hla, ?_⟩
        refine ⟨D, List.replicate kvs.length true, rfl, SqL.of ((upd_ne nDa).trans gA), ?_⟩
        rw [show (List.replicate kvs.length true).all id = true by simp]
        refine k _ fun c o e => ?_
        by_cases n : c = a
        · rw [n, upd_same]
          rw [n, ha] at e
          exact e
        · rw [upd_ne n]
          exact sA _ _ (ho _ _ n (s14 _ _ (s1 _ _ e)))
    | @tup _ a b xs ys ha hb hl hz hs =>
      refine ⟨_, rfl, (by show 2 ≤ sizeLine; decide), fun tp htp => ?_⟩
      have s1 := same_upd (o := .tup [.ty "list", .ty "tuple"]) htp
      have ta : TyX K (upd H tp (.tup [.ty "list", .ty "tuple"])) (.ref a) (.type "tuple") := .base (.tup (s1 _ _ ha))
      have tb' : TyX K (upd H tp (.tup [.ty "list", .ty "tuple"])) (.ref b) (.type "tuple") := .base (.tup (s1 _ _ hb))
      have kl : kitB "tuple" "list" = some false := by decide +kernel
      have kt : kitB "tuple" "tuple" = some true := by decide +kernel
      refine ⟨.ref a, tp, _, .type "tuple", [.type "list", .type "tuple"], _, rfl, upd_same, .cons (.ty _) (.cons (.ty _) .nil), ta, any_tt kl kt, _, rfl, iteT ?_⟩
      have ha1 := s1 _ _ ha
      have hb1 := s1 _ _ hb
      generalize upd H tp (.tup [.ty "list", .ty "tuple"]) = H1 at s1 ta tb' ha1 hb1
      refine ⟨_, rfl, .ref b, .ty "list", _, _, _, rfl, .ty _, tb', kit_ty kl, _, rfl, .ref a, .ty "list", _, _, _, rfl, .ty _, ta, kit_ty kl, rfl, _, rfl, ?_⟩
      rw [decide_eq_true rfl]
      refine iteT ⟨_, rfl, .ref b, .ty "tuple", _, _, _, rfl, .ty _, tb', kit_ty kt, _, rfl, .ref a, .ty "tuple", _, _, _, rfl, .ty _, ta, kit_ty kt, rfl, ?_⟩
      refine ⟨_, rfl, _, rfl, ?_⟩
      rw [decide_eq_true rfl]
      refine iteT ⟨_, rfl, a, xs, rfl, .inr (SqT.of ha1), _, rfl, b, ys, rfl, .inr (SqT.of hb1), rfl, _, rfl, ?_⟩
      rw [hl, decide_eq_true rfl]
      refine iteT ⟨_, rfl, _, rfl, a, b, xs, ys, rfl, .inr ⟨SqT.of ha1, SqT.of hb1, fun D hD => ?_⟩⟩
      refine lc_pairsT hl (fun i H' => Same H1 H' ∧ H' D = some (.lst ((List.replicate i true).map V.bl))) ⟨same_upd hD, upd_same⟩ (fun i H' ⟨sA, _⟩ => ⟨SqT.of (sA _ _ ha1), SqT.of (sA _ _ hb1)⟩) ?_ ?_
      · rintro i u v T H' hu hv ⟨sA, gA⟩ hT
        have sT := same_upd (o := .tup [u, v]) hT
        refine ⟨T, _, rfl, SqT.of upd_same, rfl, _, _, rfl, _, _, rfl, rfl, rfl, ?_⟩
        dsimp only [tYes]
        rw [if_pos rfl]
        refine ⟨_, rfl, _, rfl, u, v, rfl, Alk.same (s1.trans (sA.trans sT)) (hs i u v hu hv), fun H2 s2 => ?_⟩
        refine ⟨_, s2 _ _ (sT _ _ gA), ?_, fun c o e => ?_, ?_⟩
        · rw [List.length_map, List.length_replicate]
          have : i < xs.length := (List.getElem?_eq_some_iff.mp hu).1
          exact small1000 (by omega)
        · rw [upd_ne (ne_of_none e hD)]
          exact s2 _ _ (sT _ _ (sA _ _ e))
        · rw [upd_same, List.replicate_succ', List.map_append]
          rfl
      · rintro H2 ⟨sA, gA⟩
        refine ⟨D, List.replicate xs.length true, rfl, SqL.of gA, ?_⟩
        rw [show (List.replicate xs.length true).all id = true by simp]
        exact k _ (s1.trans sA)
end
end L2.K02
namespace L2.K02
open PySem PySem.Spec PyProof.Rows L2.EV
theorem got_ex {P : Program} {w : World} {K : PySem.W.Frag} {mg : Str → Option Value} {base : Heap} {f : Addr} {fd : FuncData} (F : FnP K "_law_exact" sEx f fd) (gE : mg "_law_exact" = some (.ref f)) (mIs : mg "isinstance" = none) (mL : mg "len" = none) (mA : mg "all" = none) (mZ : mg "zip" = none)
    (mLi : mg "list" = none) (mT : mg "tuple" = none) (mD : mg "dict" = none) (mB : mg "bool" = none) : ∀ n, Got P w K mg base (n + 1) "_law_exact" pEx (spEx n) := by
  have b : Binds K fd pEx [] := F.bindsN fun _ _ _ _ _ _ us hl => match us, hl with | [_, _], _ => rfl
  intro n
  induction n with
  | zero =>
    refine ⟨f, fd, ⟨fun vs H Q E h => ?_, fun A outer s H args us vs Q E _ _ _ _ h => ?_⟩, b, F.kp, gE⟩
    · obtain ⟨x, y, rfl, _⟩ := h
      rfl
    · obtain ⟨x, y, rfl, h, _⟩ := h
      cases h
  | succ n ih => exact ⟨f, fd, ok_ex_step F ih mIs mL mA mZ mLi mT mD mB, b, F.kp, gE⟩
end L2.K02
set_option Elab.async false
set_option linter.all false
set_option maxRecDepth 100000
set_option maxHeartbeats 4000000
namespace L2.K02
open PySem PySem.Spec PyProof.Rows L2.EV
/-! ### the form of a word -/
def wordB (x : Str) : Bool := decide (x.length ≤ 8) && (Txt.isascii x && (Txt.isalpha x && Txt.islower x))
abbrev sWF : Stmt := top 11
theorem scWF : FnScope ["value"] ["value"] (defScope sWF) := ⟨rfl, rfl, rfl, by decide +kernel, rfl, by decide +kernel, by decide +kernel⟩
def spWF (K : PySem.W.Frag) : Sp := fun vs H Q _ => ∃ v, vs = [v] ∧ ((∃ x, v = .str x ∧ x.length ≤ sizeLine ∧ Q (.bl (wordB x)) H) ∨ ∃ t, TyX K H v t ∧ PySem.W.kitOne K t (.type "str") = some false ∧ Q (.bl false) H)
section
variable {P : Program} {w : World} {K : PySem.W.Frag} {mg : Str → Option Value} {base : Heap} {f : Addr} {fd : FuncData}
theorem ok_wf {t8 : Tok} (F : FnP K "has_word_form" sWF f fd) (m8 : mg "LONGEST_WORD" = some (.int 8 t8)) (mIs : mg "isinstance" = none) (mL : mg "len" = none) (mS : mg "str" = none) : FnOk P w K mg base CX0 1 f fd ["value"] (spWF K) := by
  refine F.ok scWF (fun vs H Q E h => ?_) (fun cdv A outer s H vs Q E hr h => ?_)
  · obtain ⟨v, rfl, _⟩ := h
    rfl
  · obtain ⟨v, rfl, h⟩ := h
    refine ⟨_, PSs.nox (pss_cons (ps_if (PW.pt (pw_or (pt_not (pt_val (pe_callB call_isi (by rfl) mIs (by decide +kernel) (pa_cons (pv 0) (pa_cons (pe_bltn (v := .ty "str") (u := .type "str") (by rfl) mS (by decide +kernel) rfl) pa_nil)))))
        (pw_or1 (pt_cmpR op_gt (pe_callB call_len_str (by rfl) mL PySem.boot_len (pa_cons (pv 0) pa_nil)) (pe_glob (v := .int 8) (by rfl) m8 ⟨t8, rfl⟩ (by decide)) (nomark _))))) (pss_one (ps_ret pe_bl)) pss_nil)
      (pss_one (ps_ret (pe_and (pe_m0 PySem.F.slot_str_isascii PySem.F.type_str_isascii mt_isascii (pv 0))
        (pe_and (pe_m0 PySem.F.slot_str_isalpha PySem.F.type_str_isalpha mt_isalpha (pv 0))
          (pe_one (pe_m0 PySem.F.slot_str_islower PySem.F.type_str_islower mt_islower (pv 0)))))))), ?_⟩
    rcases h with ⟨x, rfl, hx, q⟩ | ⟨t, ty, kt, q⟩
    · refine ⟨_, rfl, _, .ty "str", _, _, true, rfl, .ty _, .base (.str x), kit_ty (by decide +kernel), true, rfl, iteF ?_⟩
      refine ⟨_, rfl, x, rfl, hx, _, _, rfl, rfl, _, rfl, ?_⟩
      by_cases h8 : x.length ≤ 8
      · rw [decide_eq_false (by omega)]
        have e : wordB x = (Txt.isascii x && (Txt.isalpha x && Txt.islower x)) := by
          unfold wordB
          rw [decide_eq_true h8]
          rfl
        rw [e] at q
        refine iteF ⟨_, rfl, ⟨x, rfl⟩, x, rfl, rfl, trivial, _, rfl, ?_⟩
        cases e1 : Txt.isascii x with
        | false => rw [e1] at q; exact iteF q
        | true =>
          rw [e1] at q
          refine iteT ⟨_, rfl, ⟨x, rfl⟩, x, rfl, rfl, trivial, _, rfl, ?_⟩
          cases e2 : Txt.isalpha x with
          | false => rw [e2] at q; exact iteF q
          | true =>
            rw [e2] at q
            exact iteT ⟨_, rfl, ⟨x, rfl⟩, x, rfl, rfl, trivial, q⟩
      · rw [decide_eq_true (by omega)]
        have e : wordB x = false := by
          unfold wordB
          rw [decide_eq_false h8]
          rfl
        rw [e] at q
        exact iteT q
    · exact ⟨_, rfl, v, .ty "str", _, _, false, rfl, .ty _, ty, kt, false, rfl, iteT (iteT q)⟩
end
end L2.K02
set_option Elab.async false
set_option linter.all false
set_option maxRecDepth 100000
set_option maxHeartbeats 4000000
namespace L2.K02
open PySem PySem.Spec PyProof.Rows L2.EV
/-! ### counts -/
abbrev sCnt : Stmt := top 9
theorem scCnt : FnScope ["value"] ["value"] (defScope sCnt) := ⟨rfl, rfl, rfl, by decide +kernel, rfl, by decide +kernel, by decide +kernel⟩
/-- the answer for a thing; where it is no number, its type tells -/
inductive Cnt (K : PySem.W.Frag) (H : Hp) : V → Bool → Prop
  | int (i : Int) : Cnt K H (.int i) (decide (0 ≤ i))
  | bl (b : Bool) : Cnt K H (.bl b) false
  | oth {v : V} {t : Value} : TyX K H v t → PySem.W.kitOne K t (.type "int") = some false → Cnt K H v false
def spCnt (K : PySem.W.Frag) : Sp := fun vs H Q _ => ∃ v r, vs = [v] ∧ Cnt K H v r ∧ Q (.bl r) H
section
variable {P : Program} {w : World} {K : PySem.W.Frag} {mg : Str → Option Value} {base : Heap} {f : Addr} {fd : FuncData}
theorem ok_cnt (F : FnP K "is_count" sCnt f fd) (mIs : mg "isinstance" = none) (mI : mg "int" = none) (mB : mg "bool" = none) : FnOk P w K mg base CX0 1 f fd ["value"] (spCnt K) := by
  refine F.ok scCnt (fun vs H Q E h => ?_) (fun cdv A outer s H vs Q E hr h => ?_)
  · obtain ⟨v, r, rfl, _⟩ := h
    rfl
  · obtain ⟨v, r, rfl, h, q⟩ := h
    refine ⟨_, PSs.nox (pss_one (ps_ret (pe_and (pe_callB call_isi (by rfl) mIs (by decide +kernel) (pa_cons (pv 0) (pa_cons (pe_bltn (v := .ty "int") (u := .type "int") (by rfl) mI (by decide +kernel) rfl) pa_nil)))
      (pe_and (pe_not (pe_callB call_isi (by rfl) mIs (by decide +kernel) (pa_cons (pv 0) (pa_cons (pe_bltn (v := .ty "bool") (u := .type "bool") (by rfl) mB (by decide +kernel) rfl) pa_nil))))
        (pe_one (pe_cmpR op_ge (pv 0) pe_int (nomark _))))))), ?_⟩
    cases h with
    | int i =>
      refine ⟨_, rfl, .int i, .ty "int", _, _, true, rfl, .ty _, .base (.int i), kit_ty (by decide +kernel), true, rfl, iteT ?_⟩
      exact ⟨_, rfl, .int i, .ty "bool", _, _, false, rfl, .ty _, .base (.int i), kit_ty (by decide +kernel), false, rfl, true, rfl, iteT ⟨_, rfl, _, _, rfl, rfl, q⟩⟩
    | bl b =>
      refine ⟨_, rfl, .bl b, .ty "int", _, _, true, rfl, .ty _, .base (.bl b), kit_ty (by decide +kernel), true, rfl, iteT ?_⟩
      exact ⟨_, rfl, .bl b, .ty "bool", _, _, true, rfl, .ty _, .base (.bl b), kit_ty (by decide +kernel), true, rfl, false, rfl, iteF q⟩
    | oth ty k => exact ⟨_, rfl, v, .ty "int", _, _, false, rfl, .ty _, ty, k, false, rfl, iteF q⟩
end
/-! ### tuples of a length -/
abbrev sTof : Stmt := top 10
theorem scTof : FnScope ["value", "length"] ["value", "length"] (defScope sTof) := ⟨rfl, rfl, rfl, by decide +kernel, rfl, by decide +kernel, by decide +kernel⟩
def spTof (K : PySem.W.Frag) : Sp := fun vs H Q _ => ∃ (v : V) (n : Nat), vs = [v, .int (n : Int)] ∧ ((∃ a xs, v = .ref a ∧ H a = some (.tup xs) ∧ Q (.bl (decide (xs.length = n))) H) ∨ ∃ t, TyX K H v t ∧ PySem.W.kitOne K t (.type "tuple") = some false ∧ Q (.bl false) H)
section
variable {P : Program} {w : World} {K : PySem.W.Frag} {mg : Str → Option Value} {base : Heap} {f : Addr} {fd : FuncData}
theorem ok_tof (F : FnP K "is_tuple_of" sTof f fd) (mIs : mg "isinstance" = none) (mT : mg "tuple" = none) (mL : mg "len" = none) : FnOk P w K mg base CX0 1 f fd ["value", "length"] (spTof K) := by
  refine F.ok scTof (fun vs H Q E h => ?_) (fun cdv A outer s H vs Q E hr h => ?_)
  · obtain ⟨v, n, rfl, _⟩ := h
    rfl
  · obtain ⟨v, n, rfl, h⟩ := h
    refine ⟨_, PSs.nox (pss_one (ps_ret (pe_and (pe_callB call_isi (by rfl) mIs (by decide +kernel) (pa_cons (pv 0) (pa_cons (pe_bltn (v := .ty "tuple") (u := .type "tuple") (by rfl) mT (by decide +kernel) rfl) pa_nil)))
      (pe_one (pe_cmpR op_eq (pe_callB call_len_seq (by rfl) mL PySem.boot_len (pa_cons (pv 0) pa_nil)) (pv 1) (nomark _)))))), ?_⟩
    rcases h with ⟨a, xs, rfl, ha, q⟩ | ⟨t, ty, k, q⟩
    · refine ⟨_, rfl, .ref a, .ty "tuple", _, _, true, rfl, .ty _, .base (.tup ha), kit_ty (by decide +kernel), true, rfl, iteT ?_⟩
      refine ⟨_, rfl, a, xs, rfl, .inr (SqT.of ha), _, rfl, rfl, ?_⟩
      have e : decide (V.int (xs.length : Int) = V.int (n : Int)) = decide (xs.length = n) := by
        by_cases h : xs.length = n
        · rw [h, decide_eq_true rfl, decide_eq_true rfl]
        · rw [decide_eq_false h, decide_eq_false fun z => by injection z with z; omega]
      rw [e]
      exact q
    · exact ⟨_, rfl, v, .ty "tuple", _, _, false, rfl, .ty _, ty, k, false, rfl, iteF q⟩
end
end L2.K02
set_option Elab.async false
set_option linter.all false
set_option maxRecDepth 100000
set_option maxHeartbeats 4000000
namespace L2.K02
open PySem PySem.Spec PyProof.Rows L2.EV
/-! ### the form of an effect -/
/-- how many numbers stand behind a kind -/
def behind (z : Str) : Option Nat := if z = ("coins" : Str) then some 1 else if z = ("fill" : Str) then some 2 else none
/-- the table NUMBERS_BEHIND, written -/
structure Nb (K : PySem.W.Frag) (w : World) (mg : Str → Option Value) : Prop where
  ex : ∃ d es n, mg "NUMBERS_BEHIND" = some (.ref d) ∧ KDict K w d es n ∧ (∀ z, behind z = none → PySem.W.nsIn K d z = some none) ∧ ∀ z k, behind z = some k → ∃ t, PySem.W.nsIn K d z = some (some (.int (k : Int) t))
/-- an item: is it a count of at most 3 -/
inductive Num (K : PySem.W.Frag) (H : Hp) : V → Bool → Prop
  | int (i : Int) : Num K H (.int i) (decide (0 ≤ i) && decide (i ≤ 3))
  | bl (b : Bool) : Num K H (.bl b) false
  | oth {v : V} {t : Value} : (∀ H', Same H H' → TyX K H' v t) → PySem.W.kitOne K t (.type "int") = some false → Num K H v false
theorem Num.same {K : PySem.W.Frag} {H H' : Hp} {v : V} {r : Bool} (h : Num K H v r) (s : Same H H') : Num K H' v r := by
  cases h with
  | int i => exact .int i
  | bl b => exact .bl b
  | oth f k => exact .oth (fun H2 s2 => f H2 (s.trans s2)) k
inductive EffF (K : PySem.W.Frag) (H : Hp) : V → Bool → Prop
  | no {v : V} {t : Value} : TyX K H v t → PySem.W.kitOne K t (.type "tuple") = some false → EffF K H v false
  | nil {a : Addr} : H a = some (.tup []) → EffF K H (.ref a) false
  | odd {a : Addr} {x : V} {xs : List V} {t : Value} : H a = some (.tup (x :: xs)) → TyX K H x t → PySem.W.kitOne K t (.type "str") = some false → EffF K H (.ref a) false
  | word {a : Addr} {z : Str} {xs : List V} : H a = some (.tup (.str z :: xs)) → behind z = none → EffF K H (.ref a) false
  | len {a : Addr} {z : Str} {xs : List V} {k : Nat} : H a = some (.tup (.str z :: xs)) → behind z = some k → xs.length ≠ k → EffF K H (.ref a) false
  | some {a : Addr} {z : Str} {xs : List V} {rs : List Bool} : H a = some (.tup (.str z :: xs)) → behind z = some xs.length → rs.length = xs.length → (∀ (i : Nat) (x : V) (r : Bool), xs[i]? = some x → rs[i]? = some r → Num K H x r) → EffF K H (.ref a) (rs.all id)
theorem cut_tail (x : V) (xs : List V) : cutV (x :: xs) (Option.some 1) Option.none = xs := by
  unfold cutV
  have e : HT.sIx (x :: xs).length 0 (Option.some (1 : Int)) = 1 := by
    have := HT.sIx_nat (x :: xs).length 0 1
    rw [show ((1 : Nat) : Int) = 1 from rfl] at this
    rw [this, List.length_cons]
    omega
  rw [e, HT.sIx_none]
  exact List.take_of_length_le (by simp)
abbrev sEF : Stmt := top 12
abbrev nEF : List Str := ["value", "number"]
theorem scEF : FnScope nEF ["value"] (defScope sEF) := ⟨rfl, rfl, rfl, by decide +kernel, rfl, by decide +kernel, by decide +kernel⟩
def spEF (K : PySem.W.Frag) : Sp := fun vs H Q _ => ∃ v r, vs = [v] ∧ EffF K H v r ∧ ∀ H', Same H H' → Q (.bl r) H'
section
variable {P : Program} {w : World} {K : PySem.W.Frag} {mg : Str → Option Value} {base : Heap} {f : Addr} {fd : FuncData}
theorem ok_ef {t3 : Tok} (F : FnP K "has_effect_form" sEF f fd) (GC : Got P w K mg base 1 "is_count" ["value"] (spCnt K)) (B : Nb K w mg) (m3 : mg "MOST_COINS" = some (.int 3 t3)) (mIs : mg "isinstance" = none) (mL : mg "len" = none) (mS : mg "str" = none) (mT : mg "tuple" = none) (mA : mg "all" = none) :
    FnOk P w K mg base CX0 2 f fd ["value"] (spEF K) := by
  obtain ⟨d, es, nn, gD, KD, kNo, kYes⟩ := B.ex
  refine F.ok scEF (fun vs H Q E h => ?_) (fun cdv A outer s H vs Q E hr h => ?_)
  · obtain ⟨v, r, rfl, _⟩ := h
    rfl
  · obtain ⟨v, r, rfl, h, q⟩ := h
    refine ⟨_, PSs.nox (pss_cons (ps_if (PW.pt (pw_or (pt_not (pt_val (pe_callB call_isi (by rfl) mIs (by decide +kernel) (pa_cons (pv 0) (pa_cons (pe_bltn (v := .ty "tuple") (u := .type "tuple") (by rfl) mT (by decide +kernel) rfl) pa_nil)))))
          (pw_or (pt_not (pt_truth (pv 0) (fun _ => rfl)))
          (pw_or1 (pt_not (pt_val (pe_callB call_isi (by rfl) mIs (by decide +kernel) (pa_cons (pe_ix ix_tup (pv 0) pe_int (fun _ _ => rfl)) (pa_cons (pe_bltn (v := .ty "str") (u := .type "str") (by rfl) mS (by decide +kernel) rfl) pa_nil)))))))))
        (pss_one (ps_ret pe_bl)) pss_nil)
      (pss_cons (ps_if (PW.pt (pw_or (pt_cmpR (op_notIn_kd KD) (pe_ix ix_tup (pv 0) pe_int (fun _ _ => rfl)) (pe_glob (v := .ref d) (by rfl) gD rfl (by decide)) (by rfl))
          (pw_or1 (pt_cmpR op_ne (pe_callB call_len_seq (by rfl) mL PySem.boot_len (pa_cons (pv 0) pa_nil))
            (pe_op op_add (pe_ix ix_kdict (pe_glob (v := .ref d) (by rfl) gD rfl (by decide)) (pe_ix ix_tup (pv 0) pe_int (fun _ _ => rfl)) (fun _ _ => rfl)) pe_int) (nomark _)))))
        (pss_one (ps_ret pe_bl)) pss_nil)
      (pss_one (ps_ret (pe_callB (cr_all rfl) (by rfl) mA (by decide +kernel) (pa_cons
        (pe_lc (own := [("number", 1)]) (g := gName 1) (tt := tYes) (by rfl) scEF.nd (pi_tup (pe_slice sl_tup (pv 0) (po_some pe_int) po_none)) (blkOk_by (own := [("number", 1)]) (N := nEF) (sc := defScope sEF) (by decide +kernel))
          (fun _ _ _ _ _ => pg_name (i := 1) scEF.nd rfl (Or.inl rfl)) (fun _ _ _ _ _ => pts_nil)
          (fun _ _ _ _ _ => pe_and (pe_got GC hr (pa_cons (pv 1) pa_nil)) (pe_one (pe_cmpR op_le (pv 1) (pe_glob (v := .int 3) (by rfl) m3 ⟨t3, rfl⟩ (by decide)) (nomark _))))) pa_nil)))))), ?_⟩
    have at0 : ∀ (x : V) (xs : List V), atI (x :: xs) 0 = Option.some x := fun x xs => atI_nat (j := 0) rfl
    have isT : ∀ {a : Addr} {ys : List V}, H a = Option.some (.tup ys) → TyX K H (.ref a) (.type "tuple") := fun h => .base (.tup h)
    cases h with
    | no ty k => exact ⟨_, rfl, v, .ty "tuple", _, _, false, rfl, .ty _, ty, k, false, rfl, iteT (iteT (q _ (Same.refl H)))⟩
    | @nil a ha => exact ⟨_, rfl, .ref a, .ty "tuple", _, _, true, rfl, .ty _, isT ha, kit_ty (by decide +kernel), true, rfl, iteF ⟨_, rfl, false, .inr (.inl ⟨[], SqT.of ha, rfl⟩), iteT (iteT (q _ (Same.refl H)))⟩⟩
    | @odd a x xs t ha ty k =>
      exact ⟨_, rfl, .ref a, .ty "tuple", _, _, true, rfl, .ty _, isT ha, kit_ty (by decide +kernel), true, rfl, iteF ⟨_, rfl, true, .inr (.inl ⟨_, SqT.of ha, rfl⟩), iteF
        ⟨_, rfl, a, _, _, x, rfl, rfl, SqT.of ha, at0 x xs, x, .ty "str", _, _, false, rfl, .ty _, ty, k, false, rfl, iteT (q _ (Same.refl H))⟩⟩⟩
    | @word a z xs ha hz =>
      exact ⟨_, rfl, .ref a, .ty "tuple", _, _, true, rfl, .ty _, isT ha, kit_ty (by decide +kernel), true, rfl, iteF ⟨_, rfl, true, .inr (.inl ⟨_, SqT.of ha, rfl⟩), iteF
        ⟨_, rfl, a, _, _, .str z, rfl, rfl, SqT.of ha, at0 _ xs, .str z, .ty "str", _, _, true, rfl, .ty _, .base (.str z), kit_ty (by decide +kernel), true, rfl, iteF
        ⟨_, rfl, a, _, _, .str z, rfl, rfl, SqT.of ha, at0 _ xs, z, Option.none, rfl, rfl, kNo z hz, _, rfl, iteT (iteT (q _ (Same.refl H)))⟩⟩⟩⟩
    | @len a z xs k ha hz hl =>
      obtain ⟨tk, hns⟩ := kYes z k hz
      refine ⟨_, rfl, .ref a, .ty "tuple", _, _, true, rfl, .ty _, isT ha, kit_ty (by decide +kernel), true, rfl, iteF ⟨_, rfl, true, .inr (.inl ⟨_, SqT.of ha, rfl⟩), iteF
        ⟨_, rfl, a, _, _, .str z, rfl, rfl, SqT.of ha, at0 _ xs, .str z, .ty "str", _, _, true, rfl, .ty _, .base (.str z), kit_ty (by decide +kernel), true, rfl, iteF
        ⟨_, rfl, a, _, _, .str z, rfl, rfl, SqT.of ha, at0 _ xs, z, _, rfl, rfl, hns, _, rfl, iteF
        ⟨_, rfl, a, _, rfl, .inr (SqT.of ha), _, rfl, a, _, _, .str z, rfl, rfl, SqT.of ha, at0 _ xs, d, z, .int (k : Int), rfl, rfl, ⟨es, nn, _, KD.at_, KD.lit, hns, ⟨tk, rfl⟩⟩, _, _, rfl, rfl, rfl, _, rfl, ?_⟩⟩⟩⟩⟩
      have e : decide (V.int (((V.str z :: xs).length : Nat) : Int) = V.int ((k : Int) + 1)) = false := decide_eq_false fun e => by
        injection e with e
        rw [List.length_cons] at e
        omega
      rw [e]
      exact iteT (q _ (Same.refl H))
    | @some a z xs rs ha hz hl hs =>
      obtain ⟨tk, hns⟩ := kYes z _ hz
      refine ⟨_, rfl, .ref a, .ty "tuple", _, _, true, rfl, .ty _, isT ha, kit_ty (by decide +kernel), true, rfl, iteF ⟨_, rfl, true, .inr (.inl ⟨_, SqT.of ha, rfl⟩), iteF
        ⟨_, rfl, a, _, _, .str z, rfl, rfl, SqT.of ha, at0 _ xs, .str z, .ty "str", _, _, true, rfl, .ty _, .base (.str z), kit_ty (by decide +kernel), true, rfl, iteF
        ⟨_, rfl, a, _, _, .str z, rfl, rfl, SqT.of ha, at0 _ xs, z, _, rfl, rfl, hns, _, rfl, iteF
        ⟨_, rfl, a, _, rfl, .inr (SqT.of ha), _, rfl, a, _, _, .str z, rfl, rfl, SqT.of ha, at0 _ xs, d, z, .int (xs.length : Int), rfl, rfl, ⟨es, nn, _, KD.at_, KD.lit, hns, ⟨tk, rfl⟩⟩, _, _, rfl, rfl, rfl, _, rfl, ?_⟩⟩⟩⟩⟩
      have e : decide (V.int (((V.str z :: xs).length : Nat) : Int) = V.int ((xs.length : Int) + 1)) = true := decide_eq_true (by rw [List.length_cons]; congr 1)
      rw [e]
      refine iteF ?_
      have x2 : xs.length ≤ 2 := by
        unfold behind at hz
        split at hz
        · have := Option.some.inj hz
          omega
        · split at hz
          · have := Option.some.inj hz
            omega
          · cases hz
      refine ⟨_, rfl, _, rfl, a, _, rfl, SqT.of ha, ?_, fun l hl2 => ?_⟩
      · intro hh
        have h1 := hh.1
        rw [show HT.sIx (V.str z :: xs).length 0 (Option.some (1 : Int)) = 1 by
          have := HT.sIx_nat (V.str z :: xs).length 0 1
          rw [show ((1 : Nat) : Int) = 1 from rfl] at this
          rw [this, List.length_cons]
          omega] at h1
        cases h1
      · rw [cut_tail]
        have s1 := same_upd (o := .tup xs) hl2
        have g1 : upd H l (.tup xs) l = Option.some (.tup xs) := upd_same
        generalize upd H l (.tup xs) = H1 at s1 g1
        refine ⟨l, rfl, ⟨_, SqT.of g1⟩, fun D hD => ?_⟩
        refine lc_tup (K := K) (a := l) (xs := xs) (fun i H' => Same H1 H' ∧ H' D = Option.some (.lst ((rs.take i).map V.bl))) ⟨same_upd hD, upd_same⟩ (fun i H' _ ⟨sA, _⟩ => SqT.of (sA _ _ g1)) ?_ ?_
        · rintro i x H' hx ⟨sA, gA⟩
          have hi : i < xs.length := (List.getElem?_eq_some_iff.mp hx).1
          have hr : rs[i]? = Option.some (rs[i]'(by omega)) := List.getElem?_eq_getElem _
          have hN := (hs i x _ hx hr).same (s1.trans sA)
          generalize rs[i]'(by omega) = r at hr hN
          have fin : ∃ acc, H' D = Option.some (.lst acc) ∧ acc.length < sizeLine ∧ (Same H1 (upd H' D (.lst (acc ++ [V.bl r]))) ∧ (upd H' D (.lst (acc ++ [V.bl r]))) D = Option.some (.lst ((rs.take (i + 1)).map V.bl))) := by
            refine ⟨_, gA, ?_, fun c o e => ?_, ?_⟩
            · rw [List.length_map]
              exact small1000 (Nat.le_trans (List.length_take_le _ _) (by omega))
            · rw [upd_ne (ne_of_none e hD)]
              exact sA _ _ e
            · rw [upd_same, List.take_succ, hr, List.map_append]
              rfl
          refine ⟨rfl, ?_⟩
          dsimp only [tYes]
          rw [if_pos rfl]
          cases hN with
          | int j =>
            refine ⟨_, rfl, .int j, _, rfl, .int j, _, rfl, ?_⟩
            by_cases h0 : 0 ≤ j
            · rw [decide_eq_true h0] at fin ⊢
              exact iteT ⟨_, rfl, _, _, rfl, rfl, fin⟩
            · rw [decide_eq_false h0] at fin ⊢
              exact iteF fin
          | bl b => exact ⟨_, rfl, .bl b, _, rfl, .bl b, _, rfl, iteF fin⟩
          | oth ty k => exact ⟨_, rfl, x, _, rfl, .oth (ty _ (Same.refl _)) k, _, rfl, iteF fin⟩
        · rintro H2 ⟨sA, gA⟩
          rw [← hl, List.take_length] at gA
          exact ⟨D, rs, rfl, SqL.of gA, q _ (s1.trans sA)⟩
end
end L2.K02
set_option Elab.async false
set_option linter.all false
set_option maxRecDepth 100000
set_option maxHeartbeats 4000000
namespace L2.K02
open PySem PySem.Spec PyProof.Rows L2.EV
/-! ### the form of a manner, of a book -/
inductive WdF (K : PySem.W.Frag) (H : Hp) : V → Bool → Prop
  | str {x : Str} : x.length ≤ sizeLine → WdF K H (.str x) (wordB x)
  | oth {v : V} {t : Value} : (∀ H', Same H H' → TyX K H' v t) → PySem.W.kitOne K t (.type "str") = some false → WdF K H v false
theorem WdF.same {K : PySem.W.Frag} {H H' : Hp} {v : V} {r : Bool} (h : WdF K H v r) (s : Same H H') : WdF K H' v r := by
  cases h with
  | str hx => exact .str hx
  | oth f k => exact .oth (fun H2 s2 => f H2 (s.trans s2)) k
theorem WdF.sp {K : PySem.W.Frag} {H : Hp} {v : V} {r : Bool} {Q : VK} (h : WdF K H v r) (q : Q (.bl r) H) : spWF K [v] H Q E0 := by
  cases h with
  | @str x hx => exact ⟨_, rfl, .inl ⟨x, rfl, hx, q⟩⟩
  | @oth _ t f k => exact ⟨v, rfl, .inr ⟨t, f H (Same.refl H), k, q⟩⟩
/-- all of xs by form, the answers rs -/
def WdsF (K : PySem.W.Frag) (H : Hp) (xs : List V) (rs : List Bool) : Prop := rs.length = xs.length ∧ ∀ (i : Nat) (x : V) (r : Bool), xs[i]? = some x → rs[i]? = some r → WdF K H x r
theorem WdsF.same {K : PySem.W.Frag} {H H' : Hp} {xs : List V} {rs : List Bool} (h : WdsF K H xs rs) (s : Same H H') : WdsF K H' xs rs := ⟨h.1, fun i x r a b => (h.2 i x r a b).same s⟩
/-- one step of a list of answers -/
theorem ans_step {H1 H' : Hp} {D : Addr} {rs : List Bool} {i : Nat} {r : Bool} (hD : H1 D = none) (sA : Same H1 H') (gA : H' D = some (.lst ((rs.take i).map V.bl))) (hr : rs[i]? = some r) (hn : rs.length ≤ 900) :
    ∃ acc, H' D = some (.lst acc) ∧ acc.length < sizeLine ∧ (Same H1 (upd H' D (.lst (acc ++ [V.bl r]))) ∧ (upd H' D (.lst (acc ++ [V.bl r]))) D = some (.lst ((rs.take (i + 1)).map V.bl))) := by
  refine ⟨_, gA, ?_, fun c o e => ?_, ?_⟩
  · rw [List.length_map]
    exact small1000 (Nat.le_trans (List.length_take_le' _ _) (by omega))
  · rw [upd_ne (ne_of_none e hD)]
    exact sA _ _ e
  · rw [upd_same, List.take_succ, hr, List.map_append]
    rfl
theorem at_of_len {α β : Type} {xs : List α} {rs : List β} (h : rs.length = xs.length) {i : Nat} {x : α} (hx : xs[i]? = some x) : ∃ r, rs[i]? = some r := by
  have hi : i < xs.length := (List.getElem?_eq_some_iff.mp hx).1
  exact ⟨_, List.getElem?_eq_getElem (by omega)⟩
abbrev nBF : List Str := ["value", "word"]
abbrev sMF : Stmt := top 13
theorem scMF : FnScope nBF ["value"] (defScope sMF) := ⟨rfl, rfl, rfl, by decide +kernel, rfl, by decide +kernel, by decide +kernel⟩
inductive ManF (K : PySem.W.Frag) (H : Hp) : V → Bool → Prop
  | no {v : V} {t : Value} : TyX K H v t → PySem.W.kitOne K t (.type "tuple") = some false → ManF K H v false
  | len {a : Addr} {xs : List V} : H a = some (.tup xs) → xs.length ≠ 4 → ManF K H (.ref a) false
  | eff {a : Addr} {x y z e : V} : H a = some (.tup [x, y, z, e]) → EffF K H e false → ManF K H (.ref a) false
  | some {a : Addr} {x y z e : V} {rs : List Bool} : H a = some (.tup [x, y, z, e]) → EffF K H e true → WdsF K H [x, y, z] rs → ManF K H (.ref a) (rs.all id)
def spMF (K : PySem.W.Frag) : Sp := fun vs H Q _ => ∃ v r, vs = [v] ∧ ManF K H v r ∧ ∀ H', Same H H' → Q (.bl r) H'
theorem cut3 (x y z e : V) : cutV [x, y, z, e] none (some 3) = [x, y, z] := rfl
section
variable {P : Program} {w : World} {K : PySem.W.Frag} {mg : Str → Option Value} {base : Heap} {f : Addr} {fd : FuncData}
theorem ok_mf (F : FnP K "has_manner_form" sMF f fd) (GT : Got P w K mg base 1 "is_tuple_of" ["value", "length"] (spTof K)) (GE : Got P w K mg base 2 "has_effect_form" ["value"] (spEF K)) (GW : Got P w K mg base 1 "has_word_form" ["value"] (spWF K)) (mA : mg "all" = none) :
    FnOk P w K mg base CX0 3 f fd ["value"] (spMF K) := by
  refine F.ok scMF (fun vs H Q E h => ?_) (fun cdv A outer s H vs Q E hr h => ?_)
  · obtain ⟨v, r, rfl, _⟩ := h
    rfl
  · obtain ⟨v, r, rfl, h, q⟩ := h
    refine ⟨_, PSs.nox (pss_cons (ps_if (PW.pt (pw_or (pt_not (pt_val (pe_got GT hr (pa_cons (pv 0) (pa_cons pe_int pa_nil))))) (pw_or1 (pt_not (pt_val (pe_got GE hr (pa_cons (pe_ix ix_tup (pv 0) pe_int (fun _ _ => rfl)) pa_nil))))))) (pss_one (ps_ret pe_bl)) pss_nil)
      (pss_one (ps_ret (pe_callB (cr_all rfl) (by rfl) mA (by decide +kernel) (pa_cons
        (pe_lc (own := [("word", 1)]) (g := gName 1) (tt := tYes) (by rfl) scMF.nd (pi_tup (pe_slice sl_tup (pv 0) po_none (po_some pe_int))) (blkOk_by (own := [("word", 1)]) (N := nBF) (sc := defScope sMF) (by decide +kernel))
          (fun _ _ _ _ _ => pg_name (i := 1) scMF.nd rfl (Or.inl rfl)) (fun _ _ _ _ _ => pts_nil) (fun _ _ _ _ _ => pe_got GW hr (pa_cons (pv 1) pa_nil))) pa_nil))))), ?_⟩
    cases h with
    | no ty k => exact ⟨_, rfl, v, 4, rfl, .inr ⟨_, ty, k, false, rfl, iteT (iteT (q _ (Same.refl H)))⟩⟩
    | @len a xs ha hl => exact ⟨_, rfl, .ref a, 4, rfl, .inl ⟨a, xs, rfl, ha, _, rfl, by rw [decide_eq_false hl]; exact iteT (iteT (q _ (Same.refl H)))⟩⟩
    | @eff a x y z e ha he =>
      refine ⟨_, rfl, .ref a, 4, rfl, .inl ⟨a, _, rfl, ha, _, rfl, iteF ?_⟩⟩
      exact ⟨_, rfl, a, _, _, e, rfl, rfl, SqT.of ha, rfl, e, false, rfl, he, fun H' s => ⟨false, rfl, iteT (q _ s)⟩⟩
    | @some a x y z e rs ha he hs =>
      refine ⟨_, rfl, .ref a, 4, rfl, .inl ⟨a, _, rfl, ha, _, rfl, iteF ?_⟩⟩
      refine ⟨_, rfl, a, _, _, e, rfl, rfl, SqT.of ha, rfl, e, true, rfl, he, fun H1 s1 => ⟨true, rfl, iteF ?_⟩⟩
      refine ⟨_, rfl, _, rfl, a, _, rfl, SqT.of (s1 _ _ ha), ?_, fun l hl2 => ?_⟩
      · intro hh
        exact absurd (show HT.sIx 4 4 (Option.some 3) = 4 from hh.2) (by decide)
      · rw [cut3]
        have s2 := same_upd (o := .tup [x, y, z]) hl2
        have g2 : upd H1 l (.tup [x, y, z]) l = Option.some (.tup [x, y, z]) := upd_same
        generalize upd H1 l (.tup [x, y, z]) = H2 at s2 g2
        have hs2 := hs.same (s1.trans s2)
        refine ⟨l, rfl, ⟨_, SqT.of g2⟩, fun D hD => ?_⟩
        refine lc_tup (K := K) (a := l) (xs := [x, y, z]) (fun i H' => Same H2 H' ∧ H' D = Option.some (.lst ((rs.take i).map V.bl))) ⟨same_upd hD, upd_same⟩ (fun i H' _ ⟨sA, _⟩ => SqT.of (sA _ _ g2)) ?_ ?_
        · rintro i u H' hu ⟨sA, gA⟩
          obtain ⟨r, hr'⟩ := at_of_len hs2.1 hu
          refine ⟨rfl, ?_⟩
          dsimp only [tYes]
          rw [if_pos rfl]
          refine ⟨_, rfl, ?_⟩
          dsimp only [tNil]
          exact ((hs2.2 i u r hu hr').same sA).sp (ans_step hD sA gA hr' (by rw [hs2.1]; show 3 ≤ 900; decide))
        · rintro H3 ⟨sA, gA⟩
          rw [← hs2.1, List.take_length] at gA
          exact ⟨D, rs, rfl, SqL.of gA, q _ (s1.trans (s2.trans sA))⟩
end
end L2.K02
set_option Elab.async false
set_option linter.all false
set_option maxRecDepth 100000
set_option maxHeartbeats 4000000
namespace L2.K02
open PySem PySem.Spec PyProof.Rows L2.EV
/-! ### what stays -/
theorem TyX.same {K : PySem.W.Frag} {H H' : Hp} {v : V} {t : Value} (h : TyX K H v t) (s : Same H H') : TyX K H' v t := by
  cases h with
  | base b =>
    refine .base ?_
    cases b with
    | non => exact .non
    | bl x => exact .bl x
    | int x => exact .int x
    | str x => exact .str x
    | flt x => exact .flt x
    | lst e => exact .lst (s _ _ e)
    | frz e => exact .frz (s _ _ e)
    | tup e => exact .tup (s _ _ e)
    | dK e => exact .dK (s _ _ e)
    | dT e => exact .dT (s _ _ e)
    | ins e c a b d f => exact .ins (s _ _ e) c a b d f
  | byt b => exact .byt b
  | set e => exact .set (s _ _ e)
  | kList e c => exact .kList e c
  | kTuple e c => exact .kTuple e c
  | kDict e c => exact .kDict e c
  | fTuple e => exact .fTuple (s _ _ e)
  | fDict e => exact .fDict (s _ _ e)
theorem Cnt.same {K : PySem.W.Frag} {H H' : Hp} {v : V} {r : Bool} (h : Cnt K H v r) (s : Same H H') : Cnt K H' v r := by
  cases h with
  | int i => exact .int i
  | bl b => exact .bl b
  | oth t k => exact .oth (TyX.same t s) k
theorem Cnt.inv {K : PySem.W.Frag} {H : Hp} {v : V} (h : Cnt K H v true) : ∃ i : Int, v = .int i ∧ 0 ≤ i := by
  generalize hb : true = b at h
  cases h with
  | int i => exact ⟨i, rfl, of_decide_eq_true hb.symm⟩
  | bl b => cases hb
  | oth t k => cases hb
theorem EffF.same {K : PySem.W.Frag} {H H' : Hp} {v : V} {r : Bool} (h : EffF K H v r) (s : Same H H') : EffF K H' v r := by
  cases h with
  | no t k => exact .no (TyX.same t s) k
  | nil e => exact .nil (s _ _ e)
  | odd e t k => exact .odd (s _ _ e) (TyX.same t s) k
  | word e z => exact .word (s _ _ e) z
  | len e z n => exact .len (s _ _ e) z n
  | some e z n f => exact .some (s _ _ e) z n fun i x r a b => (f i x r a b).same s
/-! ### effects -/
inductive Ef where
  | coins (c : Int)
  | fill (a b : Int)
  deriving DecidableEq
def Ef.ok : Ef → Prop
  | .coins c => 0 ≤ c ∧ c ≤ 3
  | .fill a b => (0 ≤ a ∧ a ≤ 3) ∧ (0 ≤ b ∧ b ≤ 3)
def Ef.vs : Ef → List V
  | .coins c => [.str "coins", .int c]
  | .fill a b => [.str "fill", .int a, .int b]
def Ef.wt : Ef → Int → Int → Int
  | .coins c, i, j => i + c + j
  | .fill a b, i, j => if b + j > i + a then b + j else i + a
def EfAt (H : Hp) (t : Addr) (e : Ef) : Prop := H t = some (.tup e.vs)
theorem EfAt.same {H H' : Hp} {t : Addr} {e : Ef} (h : EfAt H t e) (s : Same H H') : EfAt H' t e := s _ _ h
theorem Num.inv {K : PySem.W.Frag} {H : Hp} {v : V} (h : Num K H v true) : ∃ i : Int, v = .int i ∧ 0 ≤ i ∧ i ≤ 3 := by
  generalize hb : true = b at h
  cases h with
  | int i =>
    rw [eq_comm, Bool.and_eq_true, decide_eq_true_eq, decide_eq_true_eq] at hb
    exact ⟨i, rfl, hb⟩
  | bl b => cases hb
  | oth t k => cases hb
theorem eff_inv {K : PySem.W.Frag} {H : Hp} {v : V} (h : EffF K H v true) : ∃ (t : Addr) (e : Ef), v = .ref t ∧ e.ok ∧ EfAt H t e := by
  generalize hb : true = b at h
  cases h with
  | no t k => cases hb
  | nil e => cases hb
  | odd e t k => cases hb
  | word e z => cases hb
  | len e z n => cases hb
  | @some a z xs rs e hz n f =>
    have all : ∀ (i : Nat) (x : V), xs[i]? = Option.some x → ∃ j : Int, x = .int j ∧ 0 ≤ j ∧ j ≤ 3 := fun i x hx => by
      have hi : i < rs.length := by
        rw [n]
        exact (List.getElem?_eq_some_iff.mp hx).1
      have hr : rs[i]? = Option.some rs[i] := List.getElem?_eq_getElem hi
      have ht : rs[i] = true := List.all_eq_true.mp hb.symm _ (List.getElem_mem hi)
      rw [ht] at hr
      exact (f i x true hx hr).inv
    unfold behind at hz
    split at hz
    · next ez =>
      subst ez
      match xs, Option.some.inj hz, all with
      | [x], _, all =>
        obtain ⟨j, rfl, h1⟩ := all 0 x rfl
        exact ⟨a, .coins j, rfl, h1, e⟩
    · split at hz
      · next ez =>
        subst ez
        match xs, Option.some.inj hz, all with
        | [x, y], _, all =>
          obtain ⟨i, rfl, h1⟩ := all 0 x rfl
          obtain ⟨j, rfl, h2⟩ := all 1 y rfl
          exact ⟨a, .fill i j, rfl, ⟨h1, h2⟩, e⟩
      · cases hz
theorem eff_of {K : PySem.W.Frag} {H : Hp} {t : Addr} {e : Ef} (h : EfAt H t e) (ok : e.ok) : EffF K H (.ref t) true := by
  cases e with
  | coins c =>
    have r : (decide (0 ≤ c) && decide (c ≤ 3)) = true := by rw [decide_eq_true ok.1, decide_eq_true ok.2]; rfl
    refine EffF.some (z := "coins") (xs := [.int c]) (rs := [true]) h (show behind "coins" = Option.some 1 by decide) rfl fun i x r' a b => ?_
    match i, a, b with
    | 0, a, b =>
      cases a
      cases b
      rw [← r]
      exact .int c
  | fill c d =>
    obtain ⟨⟨c0, c1⟩, d0, d1⟩ := ok
    have r : (decide (0 ≤ c) && decide (c ≤ 3)) = true := by rw [decide_eq_true c0, decide_eq_true c1]; rfl
    have r2 : (decide (0 ≤ d) && decide (d ≤ 3)) = true := by rw [decide_eq_true d0, decide_eq_true d1]; rfl
    refine EffF.some (z := "fill") (xs := [.int c, .int d]) (rs := [true, true]) h (show behind "fill" = Option.some 2 by decide) rfl fun i x r' a b => ?_
    match i, a, b with
    | 0, a, b =>
      cases a
      cases b
      rw [← r]
      exact .int c
    | 1, a, b =>
      cases a
      cases b
      rw [← r2]
      exact .int d
/-! ### the classes of errors -/
abbrev aE (K : PySem.W.Frag) : Addr := He.ga K "InvalidEffect"
abbrev aC (K : PySem.W.Frag) : Addr := He.ga K "InvalidCount"
abbrev aM (K : PySem.W.Frag) : Addr := He.ga K "InvalidManner"
abbrev aP (K : PySem.W.Frag) : Addr := He.ga K "PurseError"
structure Tx (P : Program) (w : World) (K : PySem.W.Frag) (mg : Str → Option Value) (base : Heap) : Prop where
  e : Ck P w K mg base "InvalidEffect" (aE K)
  c : Ck P w K mg base "InvalidCount" (aC K)
  mM : mg "InvalidManner" = some (.ref (aM K))
  mP : mg "PurseError" = some (.ref (aP K))
  asE : Asks K (aE K)
  asC : Asks K (aC K)
  xEE : PySem.W.exmOne K (.ref (aE K)) (.ref (aE K)) = some true
  xCE : PySem.W.exmOne K (.ref (aC K)) (.ref (aE K)) = some false
  xCC : PySem.W.exmOne K (.ref (aC K)) (.ref (aC K)) = some true
  kE : PySem.W.kitAny K (.ref (aE K)) [.ref (aC K), .ref (aM K)] = some false
  kC : PySem.W.kitAny K (.ref (aC K)) [.ref (aE K), .ref (aM K)] = some false
  pE : PySem.W.kitOne K (.ref (aE K)) (.ref (aP K)) = some true
  pC : PySem.W.kitOne K (.ref (aC K)) (.ref (aP K)) = some true
/-- the way out by an error of the class at C, made of v -/
def Out (H : Hp) (E : XK) (C : Addr) (v : V) : Prop := ∀ d H', Same H H' → H' d = some (.xd [(("value" : Str), v)]) → E (.ref C) (some d) H'
theorem Out.same {H H1 : Hp} {E : XK} {C : Addr} {v : V} (o : Out H E C v) (s : Same H H1) : Out H1 E C v := fun d H' s' e => o d H' (s.trans s') e
/-- a def of the top that may raise -/
structure GotX (P : Program) (w : World) (K : PySem.W.Frag) (mg : Str → Option Value) (base : Heap) (k : Nat) (x : Str) (ps : List Str) (sp : Sp) : Prop where
  ex : ∃ f fd, FnOk P w K mg base (L2.CX P w) k f fd ps sp ∧ Binds K fd ps [] ∧ PySem.W.keepIn K (.ref f) = true ∧ mg x = some (.ref f)
section
variable {X : Cx} {k j : Nat} {x : Str} {ps : List Str} {sp : Sp} {p pos : Pos} {e : Expr} {es : List Expr} {t : TA} {W : WX}
theorem pe_gotX (g : GotX X.prog X.w X.K X.mg X.base k x ps sp) (tk : Takes X W) (hr : Room j X.A) (ha : PA X (e :: es) t) (hg : Gl X x := by rfl) (hk : k ≤ j := by decide) (hdb : (x == ("__debug__" : Str)) = false := by decide)
    (he : starEach (e :: es) X.env = (false, eval e X.env) :: starEach es X.env := by rfl) (hpl : (backTo pos (starEach es X.env)).any (·.1) = false := by rfl) : PE X (.Call (.Name x p) (e :: es) [] pos) (tCallS sp (WE W) t) := by
  obtain ⟨f, fd, G, b, kp, m⟩ := g.ex
  exact pe_callS G (hr.mono hk) hg m kp b (fun σ => passAt tk σ) ha hdb he hpl
end
/-! ### check_count, check_effect -/
abbrev sCC : Stmt := top 15
abbrev sCE : Stmt := top 16
theorem scCC : FnScope ["value"] ["value"] (defScope sCC) := ⟨rfl, rfl, rfl, by decide +kernel, rfl, by decide +kernel, by decide +kernel⟩
theorem scCE : FnScope ["value"] ["value"] (defScope sCE) := ⟨rfl, rfl, rfl, by decide +kernel, rfl, by decide +kernel, by decide +kernel⟩
def spCC (K : PySem.W.Frag) : Sp := fun vs H Q E => ∃ v, vs = [v] ∧ ((Cnt K H v true ∧ ∀ H', Same H H' → Q .non H') ∨ (Cnt K H v false ∧ Out H E (aC K) v))
def spCE (K : PySem.W.Frag) : Sp := fun vs H Q E => ∃ v, vs = [v] ∧ ((EffF K H v true ∧ ∀ H', Same H H' → Q .non H') ∨ (EffF K H v false ∧ Out H E (aE K) v))
section
variable {P : Program} {w : World} {K : PySem.W.Frag} {mg : Str → Option Value} {base : Heap} {f : Addr} {fd : FuncData}
theorem ok_cc (F : FnP K "check_count" sCC f fd) (T : Tx P w K mg base) (GC : Got P w K mg base 1 "is_count" ["value"] (spCnt K)) : FnOk P w K mg base (L2.CX P w) 3 f fd ["value"] (spCC K) := by
  refine F.ok scCC (fun vs H Q E h => ?_) (fun cdv A outer s H vs Q E hr h => ?_)
  · obtain ⟨v, rfl, _⟩ := h
    rfl
  · obtain ⟨v, rfl, h⟩ := h
    refine ⟨_, pss_one (ps_if (pt_not (pt_val (pe_got GC hr (pa_cons (pv 0) pa_nil)))) (pss_one (ps_rz T.c rfl hr (takes_of rfl rfl rfl rfl) (pv 0))) pss_nil), ?_⟩
    rcases h with ⟨h, q⟩ | ⟨h, q⟩
    · exact ⟨_, rfl, v, true, rfl, h, true, rfl, iteF (q H (fun _ _ e => e))⟩
    · exact ⟨_, rfl, v, false, rfl, h, false, rfl, iteT ⟨_, rfl, fun d hd => q d _ (same_upd hd) upd_same⟩⟩
theorem ok_ce (F : FnP K "check_effect" sCE f fd) (T : Tx P w K mg base) (GE : Got P w K mg base 2 "has_effect_form" ["value"] (spEF K)) : FnOk P w K mg base (L2.CX P w) 3 f fd ["value"] (spCE K) := by
  refine F.ok scCE (fun vs H Q E h => ?_) (fun cdv A outer s H vs Q E hr h => ?_)
  · obtain ⟨v, rfl, _⟩ := h
    rfl
  · obtain ⟨v, rfl, h⟩ := h
    refine ⟨_, pss_one (ps_if (pt_not (pt_val (pe_got GE hr (pa_cons (pv 0) pa_nil)))) (pss_one (ps_rz T.e rfl hr (takes_of rfl rfl rfl rfl) (pv 0))) pss_nil), ?_⟩
    rcases h with ⟨h, q⟩ | ⟨h, q⟩
    · exact ⟨_, rfl, v, true, rfl, h, fun H1 s1 => ⟨true, rfl, iteF (q H1 s1)⟩⟩
    · exact ⟨_, rfl, v, false, rfl, h, fun H1 s1 => ⟨false, rfl, iteT ⟨_, rfl, fun d hd => q d _ (s1.trans (same_upd hd)) upd_same⟩⟩⟩
end
end L2.K02
set_option Elab.async false
set_option linter.all false
set_option maxRecDepth 100000
set_option maxHeartbeats 4000000
namespace L2.K02
open PySem PySem.Spec PyProof.Rows L2.EV
/-! ### worth -/
abbrev sW : Stmt := top 19
abbrev pW : List Str := ["effect", "ahead", "behind"]
theorem scW : FnScope pW pW (defScope sW) := ⟨rfl, rfl, rfl, by decide +kernel, rfl, by decide +kernel, by decide +kernel⟩
def spW : Sp := fun vs H Q _ => ∃ (t : Addr) (e : Ef) (i j : Int), vs = [.ref t, .int i, .int j] ∧ EfAt H t e ∧ Q (.int (e.wt i j)) H
section
variable {P : Program} {w : World} {K : PySem.W.Frag} {mg : Str → Option Value} {base : Heap} {f : Addr} {fd : FuncData}
theorem ok_w (F : FnP K "worth" sW f fd) (mM : mg "max" = none) : FnOk P w K mg base CX0 1 f fd pW spW := by
  refine F.ok scW (fun vs H Q E h => ?_) (fun cdv A outer s H vs Q E hr h => ?_)
  · obtain ⟨t, e, i, j, rfl, _⟩ := h
    rfl
  · obtain ⟨t, e, i, j, rfl, he, q⟩ := h
    refine ⟨_, PSs.nox (pss_cons (ps_if (pt_cmpR op_eq (pe_ix ix_tup (pv 0) pe_int (fun _ _ => rfl)) pe_str (nomark _)) (pss_one (ps_ret (pe_op op_add (pe_op op_add (pv 1) (pe_ix ix_tup (pv 0) pe_int (fun _ _ => rfl))) (pv 2)))) pss_nil)
      (pss_one (ps_ret (pe_callB (call_max2 rfl) (by rfl) mM (by decide +kernel) (pa_cons (pe_op op_add (pv 1) (pe_ix ix_tup (pv 0) pe_int (fun _ _ => rfl))) (pa_cons (pe_op op_add (pe_ix ix_tup (pv 0) pe_int (fun _ _ => rfl)) (pv 2)) pa_nil)))))), ?_⟩
    have S : SqT K H t e.vs := SqT.of he
    cases e with
    | coins c =>
      refine ⟨_, rfl, t, _, _, _, rfl, rfl, S, atI_nat (j := 0) rfl, rfl, _, rfl, iteT ?_⟩
      exact ⟨_, rfl, _, rfl, t, _, _, _, rfl, rfl, S, atI_nat (j := 1) rfl, _, _, rfl, rfl, _, rfl, _, _, rfl, rfl, q⟩
    | fill c d =>
      refine ⟨_, rfl, t, _, _, _, rfl, rfl, S, atI_nat (j := 0) rfl, rfl, _, rfl, iteF ?_⟩
      exact ⟨_, rfl, _, rfl, t, _, _, _, rfl, rfl, S, atI_nat (j := 1) rfl, _, _, rfl, rfl, _, rfl, t, _, _, _, rfl, rfl, S, atI_nat (j := 2) rfl, _, rfl, _, _, rfl, rfl, _, _, rfl, q⟩
end
/-! ### sides that part two effects -/
def sides : List (Int × Int) := [(0, 0), (4, 0), (0, 4), (4, 4)]
def parts (e g : Ef) (p : Int × Int) : Bool := decide (g.wt p.1 p.2 < e.wt p.1 p.2)
def apart (e g : Ef) : Option (Int × Int) := sides.find? (parts e g)
/-- the table TELLING_SIDES, written -/
structure Tsd (K : PySem.W.Frag) (mg : Str → Option Value) : Prop where
  ex : ∃ (a : Addr) (ts : List Addr), mg "TELLING_SIDES" = some (.ref a) ∧ ts.length = 4 ∧ (∀ H : Hp, SqT K H a (ts.map V.ref)) ∧ ∀ (i : Nat) (t : Addr) (p : Int × Int), ts[i]? = some t → sides[i]? = some p → ∀ H : Hp, SqT K H t [.int p.1, .int p.2]
abbrev sSA : Stmt := top 20
abbrev nSA : List Str := ["effect", "other", "ahead", "behind"]
theorem scSA : FnScope nSA ["effect", "other"] (defScope sSA) := ⟨rfl, rfl, rfl, by decide +kernel, rfl, by decide +kernel, by decide +kernel⟩
def spSA : Sp := fun vs H Q _ => ∃ (t u : Addr) (e g : Ef), vs = [.ref t, .ref u] ∧ EfAt H t e ∧ EfAt H u g ∧ (apart e g = none → Q .non H) ∧ ∀ a b, apart e g = some (a, b) → ∀ p, H p = none → Q (.ref p) (upd H p (.tup [.int a, .int b]))
section
variable {P : Program} {w : World} {K : PySem.W.Frag} {mg : Str → Option Value} {base : Heap} {f : Addr} {fd : FuncData}
theorem ok_sa (F : FnP K "sides_apart" sSA f fd) (S : Tsd K mg) (GW : Got P w K mg base 1 "worth" pW spW) : FnOk P w K mg base CX0 2 f fd ["effect", "other"] spSA := by
  obtain ⟨ta, ts, gT, lT, hT, iT⟩ := S.ex
  refine F.ok scSA (fun vs H Q E h => ?_) (fun cdv A outer s H vs Q E hr h => ?_)
  · obtain ⟨t, u, e, g, rfl, _⟩ := h
    rfl
  · obtain ⟨t, u, e, g, rfl, he, hg, q0, q1⟩ := h
    refine ⟨_, PSs.nox (pss_cons (ps_for PassesOwn.never rfl (pi_tup (pe_glob (v := .ref ta) (by rfl) gT rfl (by decide))) (pg_tup rfl (pgs_cons (pg_name (i := 2) scSA.nd rfl (Or.inl rfl)) (pgs_cons (pg_name (i := 3) scSA.nd rfl (Or.inl rfl)) pgs_nil)))
        (pss_one (ps_if (pt_cmpR op_gt (pe_got GW hr (pa_cons (pv 0) (pa_cons (pv 2) (pa_cons (pv 3) pa_nil)))) (pe_got GW hr (pa_cons (pv 1) (pa_cons (pv 2) (pa_cons (pv 3) pa_nil)))) (nomark _)) (pss_one (ps_ret (pe_tup (pa_cons (pv 2) (pa_cons (pv 3) pa_nil))))) pss_nil)))
      (pss_one (ps_ret pe_non))), ?_⟩
    refine ⟨ta, rfl, ⟨_, hT H⟩, ?_⟩
    refine for_tup (K := K) (a := ta) (xs := ts.map V.ref) (fun i σ H' => ∃ v2 v3, σ = [some (.ref t), some (.ref u), v2, v3] ∧ H' = H ∧ (sides.take i).find? (parts e g) = none) ⟨none, none, rfl, rfl, rfl⟩ (fun i σ H' _ _ => hT H') ?_ ?_
    · rintro i x σ H' hx ⟨v2, v3, rfl, rfl, nf⟩
      rw [List.getElem?_map] at hx
      cases et : ts[i]? with
      | none => rw [et] at hx; cases hx
      | some tt =>
        rw [et] at hx
        obtain rfl : V.ref tt = x := Option.some.inj hx
        have hi : i < 4 := by
          have := (List.getElem?_eq_some_iff.mp et).1
          omega
        have ep : sides[i]? = some (sides[i]'hi) := List.getElem?_eq_getElem _
        generalize sides[i]'hi = p at ep
        obtain ⟨a, b⟩ := p
        have tk : sides.take (i + 1) = sides.take i ++ [(a, b)] := by rw [List.take_succ, ep]; rfl
        refine ⟨tt, _, rfl, iT i tt _ et ep H', rfl, _, _, rfl, _, _, rfl, rfl, ?_⟩
        refine ⟨_, rfl, _, rfl, _, rfl, t, e, a, b, rfl, he, _, rfl, _, rfl, _, rfl, u, g, a, b, rfl, hg, _, _, rfl, rfl, _, rfl, ?_⟩
        refine ite2 (fun hd => ?_) (fun hd => ?_)
        · refine ⟨_, rfl, _, rfl, (by show 2 ≤ sizeLine; decide), fun p hp => ?_⟩
          refine q1 a b ?_ p hp
          unfold apart
          rw [← List.take_append_drop (i + 1) sides, tk, List.find?_append, List.find?_append, nf]
          simp [parts, hd]
        · refine ⟨_, _, rfl, rfl, ?_⟩
          rw [tk, List.find?_append, nf]
          simp [parts, hd]
    · rintro σ H' ⟨v2, v3, rfl, rfl, nf⟩
      refine q0 ?_
      rw [List.length_map, lT] at nf
      exact nf
end
abbrev sNM : Stmt := top 21
theorem scNM : FnScope ["effect", "other"] ["effect", "other"] (defScope sNM) := ⟨rfl, rfl, rfl, by decide +kernel, rfl, by decide +kernel, by decide +kernel⟩
def spNM : Sp := fun vs H Q _ => ∃ (t u : Addr) (e g : Ef), vs = [.ref t, .ref u] ∧ EfAt H t e ∧ EfAt H u g ∧ ∀ H', Same H H' → Q (.bl (decide (apart e g = none))) H'
section
variable {P : Program} {w : World} {K : PySem.W.Frag} {mg : Str → Option Value} {base : Heap} {f : Addr} {fd : FuncData}
theorem ok_nm (F : FnP K "is_never_more" sNM f fd) (GA : Got P w K mg base 2 "sides_apart" ["effect", "other"] spSA) : FnOk P w K mg base CX0 3 f fd ["effect", "other"] spNM := by
  refine F.ok scNM (fun vs H Q E h => ?_) (fun cdv A outer s H vs Q E hr h => ?_)
  · obtain ⟨t, u, e, g, rfl, _⟩ := h
    rfl
  · obtain ⟨t, u, e, g, rfl, he, hg, q⟩ := h
    refine ⟨_, PSs.nox (pss_one (ps_ret (pe_cmpR op_isN (pe_got GA hr (pa_cons (pv 0) (pa_cons (pv 1) pa_nil))) pe_non (nomark _)))), ?_⟩
    refine ⟨_, rfl, _, rfl, t, u, e, g, rfl, he, hg, fun ea => ⟨rfl, ?_⟩, fun a b ea p hp => ⟨rfl, ?_⟩⟩
    · rw [ea] at q
      exact q H fun _ _ e => e
    · rw [ea] at q
      exact q _ (same_upd hp)
end
/-! ### is_word, is_effect, is_manner -/
abbrev sIW : Stmt := top 23
abbrev sIE : Stmt := top 24
abbrev sIM : Stmt := top 25
theorem scIW : FnScope ["value"] ["value"] (defScope sIW) := ⟨rfl, rfl, rfl, by decide +kernel, rfl, by decide +kernel, by decide +kernel⟩
theorem scIE : FnScope ["value"] ["value"] (defScope sIE) := ⟨rfl, rfl, rfl, by decide +kernel, rfl, by decide +kernel, by decide +kernel⟩
theorem scIM : FnScope ["value"] ["value"] (defScope sIM) := ⟨rfl, rfl, rfl, by decide +kernel, rfl, by decide +kernel, by decide +kernel⟩
section
variable {P : Program} {w : World} {K : PySem.W.Frag} {mg : Str → Option Value} {base : Heap} {f : Addr} {fd : FuncData}
theorem ok_iw (F : FnP K "is_word" sIW f fd) (G : Got P w K mg base 1 "has_word_form" ["value"] (spWF K)) : FnOk P w K mg base CX0 2 f fd ["value"] (spWF K) := by
  refine F.ok scIW (fun vs H Q E h => ?_) (fun cdv A outer s H vs Q E hr h => ?_)
  · obtain ⟨v, rfl, _⟩ := h
    rfl
  · obtain ⟨v, rfl, h⟩ := h
    refine ⟨_, PSs.nox (pss_one (ps_ret (pe_got G hr (pa_cons (pv 0) pa_nil)))), ?_⟩
    exact ⟨_, rfl, v, rfl, h⟩
theorem ok_ie (F : FnP K "is_effect" sIE f fd) (G : Got P w K mg base 2 "has_effect_form" ["value"] (spEF K)) : FnOk P w K mg base CX0 3 f fd ["value"] (spEF K) := by
  refine F.ok scIE (fun vs H Q E h => ?_) (fun cdv A outer s H vs Q E hr h => ?_)
  · obtain ⟨v, r, rfl, _⟩ := h
    rfl
  · obtain ⟨v, r, rfl, h⟩ := h
    refine ⟨_, PSs.nox (pss_one (ps_ret (pe_got G hr (pa_cons (pv 0) pa_nil)))), ?_⟩
    exact ⟨_, rfl, v, r, rfl, h⟩
theorem ok_im (F : FnP K "is_manner" sIM f fd) (G : Got P w K mg base 3 "has_manner_form" ["value"] (spMF K)) : FnOk P w K mg base CX0 4 f fd ["value"] (spMF K) := by
  refine F.ok scIM (fun vs H Q E h => ?_) (fun cdv A outer s H vs Q E hr h => ?_)
  · obtain ⟨v, r, rfl, _⟩ := h
    rfl
  · obtain ⟨v, r, rfl, h⟩ := h
    refine ⟨_, PSs.nox (pss_one (ps_ret (pe_got G hr (pa_cons (pv 0) pa_nil)))), ?_⟩
    exact ⟨_, rfl, v, r, rfl, h⟩
end
end L2.K02
set_option Elab.async false
set_option linter.all false
set_option maxRecDepth 100000
set_option maxHeartbeats 4000000
namespace L2.K02
open PySem PySem.Spec PyProof.Rows L2.EV
abbrev pEO : List Str := ["effect", "other"]
/-! ### worth_at -/
abbrev sWA : Stmt := top 26
theorem scWA : FnScope pW pW (defScope sWA) := ⟨rfl, rfl, rfl, by decide +kernel, rfl, by decide +kernel, by decide +kernel⟩
def spWA (K : PySem.W.Frag) : Sp := fun vs H Q E => ∃ x y z, vs = [x, y, z] ∧ ((EffF K H x false ∧ Out H E (aE K) x) ∨ (EffF K H x true ∧ Cnt K H y false ∧ Out H E (aC K) y) ∨ (EffF K H x true ∧ Cnt K H y true ∧ Cnt K H z false ∧ Out H E (aC K) z) ∨
  ∃ (t : Addr) (e : Ef) (i j : Int), x = .ref t ∧ EfAt H t e ∧ e.ok ∧ y = .int i ∧ z = .int j ∧ 0 ≤ i ∧ 0 ≤ j ∧ ∀ H', Same H H' → Q (.int (e.wt i j)) H')
section
variable {P : Program} {w : World} {K : PySem.W.Frag} {mg : Str → Option Value} {base : Heap} {f : Addr} {fd : FuncData}
theorem cnt_pos {K : PySem.W.Frag} {H : Hp} {i : Int} (h : 0 ≤ i) : Cnt K H (.int i) true := by
  have := Cnt.int (K := K) (H := H) i
  rw [decide_eq_true h] at this
  exact this
theorem ok_wa (F : FnP K "worth_at" sWA f fd) (GE : GotX P w K mg base 3 "check_effect" ["value"] (spCE K)) (GC : GotX P w K mg base 3 "check_count" ["value"] (spCC K)) (GW : Got P w K mg base 1 "worth" pW spW) :
    FnOk P w K mg base (L2.CX P w) 4 f fd pW (spWA K) := by
  refine F.ok scWA (fun vs H Q E h => ?_) (fun cdv A outer s H vs Q E hr h => ?_)
  · obtain ⟨x, y, z, rfl, _⟩ := h
    rfl
  · obtain ⟨x, y, z, rfl, h⟩ := h
    refine ⟨_, pss_cons (ps_expr (pe_gotX GE (takes_of rfl rfl rfl rfl) hr (pa_cons (pv 0) pa_nil))) (pss_cons (ps_expr (pe_gotX GC (takes_of rfl rfl rfl rfl) hr (pa_cons (pv 1) pa_nil))) (pss_cons (ps_expr (pe_gotX GC (takes_of rfl rfl rfl rfl) hr (pa_cons (pv 2) pa_nil)))
      (pss_one (ps_ret (pe_got GW hr (pa_cons (pv 0) (pa_cons (pv 1) (pa_cons (pv 2) pa_nil)))))))), ?_⟩
    rcases h with ⟨h, o⟩ | ⟨h, h2, o⟩ | ⟨h, h2, h3, o⟩ | ⟨t, e, i, j, rfl, he, ok, rfl, rfl, i0, j0, q⟩
    · exact ⟨_, rfl, x, rfl, .inr ⟨h, o⟩⟩
    · exact ⟨_, rfl, x, rfl, .inl ⟨h, fun H1 s1 => ⟨_, rfl, y, rfl, .inr ⟨h2.same s1, o.same s1⟩⟩⟩⟩
    · exact ⟨_, rfl, x, rfl, .inl ⟨h, fun H1 s1 => ⟨_, rfl, y, rfl, .inl ⟨h2.same s1, fun H2 s2 => ⟨_, rfl, z, rfl, .inr ⟨h3.same (s1.trans s2), o.same (s1.trans s2)⟩⟩⟩⟩⟩⟩
    · refine ⟨_, rfl, _, rfl, .inl ⟨eff_of he ok, fun H1 s1 => ⟨_, rfl, _, rfl, .inl ⟨cnt_pos i0, fun H2 s2 => ⟨_, rfl, _, rfl, .inl ⟨cnt_pos j0, fun H3 s3 => ?_⟩⟩⟩⟩⟩⟩
      have s13 := s1.trans (s2.trans s3)
      exact ⟨_, rfl, _, rfl, _, rfl, t, e, i, j, rfl, he.same s13, q H3 s13⟩
end
/-! ### two effects, looked at first -/
def Two (K : PySem.W.Frag) (H : Hp) (E : XK) (x y : V) (R : Addr → Addr → Ef → Ef → Prop) : Prop := (EffF K H x false ∧ Out H E (aE K) x) ∨ (EffF K H x true ∧ EffF K H y false ∧ Out H E (aE K) y) ∨
  ∃ (t u : Addr) (e g : Ef), x = .ref t ∧ y = .ref u ∧ EfAt H t e ∧ EfAt H u g ∧ e.ok ∧ g.ok ∧ R t u e g
abbrev sBe : Stmt := top 27
theorem scBe : FnScope pEO pEO (defScope sBe) := ⟨rfl, rfl, rfl, by decide +kernel, rfl, by decide +kernel, by decide +kernel⟩
def spBe (K : PySem.W.Frag) : Sp := fun vs H Q E => ∃ x y, vs = [x, y] ∧ Two K H E x y fun _ _ e g => ∀ H', Same H H' → Q (.bl (decide (apart e g = none))) H'
section
variable {P : Program} {w : World} {K : PySem.W.Frag} {mg : Str → Option Value} {base : Heap} {f : Addr} {fd : FuncData}
theorem ok_be (F : FnP K "beats" sBe f fd) (GE : GotX P w K mg base 3 "check_effect" ["value"] (spCE K)) (GN : Got P w K mg base 3 "is_never_more" pEO spNM) : FnOk P w K mg base (L2.CX P w) 4 f fd pEO (spBe K) := by
  refine F.ok scBe (fun vs H Q E h => ?_) (fun cdv A outer s H vs Q E hr h => ?_)
  · obtain ⟨x, y, rfl, _⟩ := h
    rfl
  · obtain ⟨x, y, rfl, h⟩ := h
    refine ⟨_, pss_cons (ps_expr (pe_gotX GE (takes_of rfl rfl rfl rfl) hr (pa_cons (pv 0) pa_nil))) (pss_cons (ps_expr (pe_gotX GE (takes_of rfl rfl rfl rfl) hr (pa_cons (pv 1) pa_nil)))
      (pss_one (ps_ret (pe_got GN hr (pa_cons (pv 0) (pa_cons (pv 1) pa_nil)))))), ?_⟩
    rcases h with ⟨h, o⟩ | ⟨h, h2, o⟩ | ⟨t, u, e, g, rfl, rfl, he, hg, oe, og, q⟩
    · exact ⟨_, rfl, x, rfl, .inr ⟨h, o⟩⟩
    · exact ⟨_, rfl, x, rfl, .inl ⟨h, fun H1 s1 => ⟨_, rfl, y, rfl, .inr ⟨h2.same s1, o.same s1⟩⟩⟩⟩
    · refine ⟨_, rfl, _, rfl, .inl ⟨eff_of he oe, fun H1 s1 => ⟨_, rfl, _, rfl, .inl ⟨eff_of (hg.same s1) og, fun H2 s2 => ?_⟩⟩⟩⟩
      have s12 := s1.trans s2
      exact ⟨_, rfl, _, rfl, t, u, e, g, rfl, he.same s12, hg.same s12, fun H' s3 => q H' (s12.trans s3)⟩
end
abbrev sPS : Stmt := top 28
theorem scPS : FnScope pEO pEO (defScope sPS) := ⟨rfl, rfl, rfl, by decide +kernel, rfl, by decide +kernel, by decide +kernel⟩
def spPS (K : PySem.W.Frag) : Sp := fun vs H Q E => ∃ x y, vs = [x, y] ∧ Two K H E x y fun _ _ e g => (apart e g = none → ∀ H', Same H H' → Q .non H') ∧
  ∀ a b, apart e g = some (a, b) → ∀ p H', Same H H' → H' p = some (.tup [.int a, .int b]) → Q (.ref p) H'
section
variable {P : Program} {w : World} {K : PySem.W.Frag} {mg : Str → Option Value} {base : Heap} {f : Addr} {fd : FuncData}
theorem ok_ps (F : FnP K "parting_sides" sPS f fd) (GE : GotX P w K mg base 3 "check_effect" ["value"] (spCE K)) (GA : Got P w K mg base 2 "sides_apart" pEO spSA) : FnOk P w K mg base (L2.CX P w) 4 f fd pEO (spPS K) := by
  refine F.ok scPS (fun vs H Q E h => ?_) (fun cdv A outer s H vs Q E hr h => ?_)
  · obtain ⟨x, y, rfl, _⟩ := h
    rfl
  · obtain ⟨x, y, rfl, h⟩ := h
    refine ⟨_, pss_cons (ps_expr (pe_gotX GE (takes_of rfl rfl rfl rfl) hr (pa_cons (pv 0) pa_nil))) (pss_cons (ps_expr (pe_gotX GE (takes_of rfl rfl rfl rfl) hr (pa_cons (pv 1) pa_nil)))
      (pss_one (ps_ret (pe_got GA hr (pa_cons (pv 0) (pa_cons (pv 1) pa_nil)))))), ?_⟩
    rcases h with ⟨h, o⟩ | ⟨h, h2, o⟩ | ⟨t, u, e, g, rfl, rfl, he, hg, oe, og, q0, q1⟩
    · exact ⟨_, rfl, x, rfl, .inr ⟨h, o⟩⟩
    · exact ⟨_, rfl, x, rfl, .inl ⟨h, fun H1 s1 => ⟨_, rfl, y, rfl, .inr ⟨h2.same s1, o.same s1⟩⟩⟩⟩
    · refine ⟨_, rfl, _, rfl, .inl ⟨eff_of he oe, fun H1 s1 => ⟨_, rfl, _, rfl, .inl ⟨eff_of (hg.same s1) og, fun H2 s2 => ?_⟩⟩⟩⟩
      have s12 := s1.trans s2
      exact ⟨_, rfl, _, rfl, t, u, e, g, rfl, he.same s12, hg.same s12, fun n => q0 n H2 s12, fun a b n p hp => q1 a b n p _ (s12.trans (same_upd hp)) upd_same⟩
end
/-- any object as parting sides -/
inductive Jdg (K : PySem.W.Frag) (H : Hp) (e g : Ef) : V → Bool → Prop
  | no {v : V} {t : Value} : TyX K H v t → PySem.W.kitOne K t (.type "tuple") = some false → Jdg K H e g v false
  | len {a : Addr} {xs : List V} : H a = some (.tup xs) → xs.length ≠ 2 → Jdg K H e g (.ref a) false
  | c0 {a : Addr} {p q : V} : H a = some (.tup [p, q]) → Cnt K H p false → Jdg K H e g (.ref a) false
  | c1 {a : Addr} {p q : V} : H a = some (.tup [p, q]) → Cnt K H p true → Cnt K H q false → Jdg K H e g (.ref a) false
  | some {a : Addr} {i j : Int} : H a = some (.tup [.int i, .int j]) → 0 ≤ i → 0 ≤ j → Jdg K H e g (.ref a) (parts e g (i, j))
theorem Jdg.same {K : PySem.W.Frag} {H H' : Hp} {e g : Ef} {v : V} {r : Bool} (h : Jdg K H e g v r) (s : Same H H') : Jdg K H' e g v r := by
  cases h with
  | no t k => exact .no (TyX.same t s) k
  | len a n => exact .len (s _ _ a) n
  | c0 a c => exact .c0 (s _ _ a) (c.same s)
  | c1 a c d => exact .c1 (s _ _ a) (c.same s) (d.same s)
  | some a i j => exact .some (s _ _ a) i j
abbrev sAP : Stmt := top 29
abbrev pAP : List Str := ["effect", "other", "value"]
theorem scAP : FnScope pAP pAP (defScope sAP) := ⟨rfl, rfl, rfl, by decide +kernel, rfl, by decide +kernel, by decide +kernel⟩
def spAP (K : PySem.W.Frag) : Sp := fun vs H Q E => ∃ x y v, vs = [x, y, v] ∧ Two K H E x y fun _ _ e g => ∃ r, Jdg K H e g v r ∧ ∀ H', Same H H' → Q (.bl r) H'
section
variable {P : Program} {w : World} {K : PySem.W.Frag} {mg : Str → Option Value} {base : Heap} {f : Addr} {fd : FuncData}
theorem ok_ap (F : FnP K "are_parting_sides" sAP f fd) (GE : GotX P w K mg base 3 "check_effect" ["value"] (spCE K)) (GT : Got P w K mg base 1 "is_tuple_of" ["value", "length"] (spTof K)) (GC : Got P w K mg base 1 "is_count" ["value"] (spCnt K))
    (GW : Got P w K mg base 1 "worth" pW spW) : FnOk P w K mg base (L2.CX P w) 4 f fd pAP (spAP K) := by
  refine F.ok scAP (fun vs H Q E h => ?_) (fun cdv A outer s H vs Q E hr h => ?_)
  · obtain ⟨x, y, v, rfl, _⟩ := h
    rfl
  · obtain ⟨x, y, v, rfl, h⟩ := h
    refine ⟨_, pss_cons (ps_expr (pe_gotX GE (takes_of rfl rfl rfl rfl) hr (pa_cons (pv 0) pa_nil))) (pss_cons (ps_expr (pe_gotX GE (takes_of rfl rfl rfl rfl) hr (pa_cons (pv 1) pa_nil)))
      (pss_cons (ps_if (PW.pt (pw_or (pt_not (pt_val (pe_got GT hr (pa_cons (pv 2) (pa_cons pe_int pa_nil))))) (pw_or (pt_not (pt_val (pe_got GC hr (pa_cons (pe_ix ix_tup (pv 2) pe_int (fun _ _ => rfl)) pa_nil))))
          (pw_or1 (pt_not (pt_val (pe_got GC hr (pa_cons (pe_ix ix_tup (pv 2) pe_int (fun _ _ => rfl)) pa_nil)))))))) (pss_one (ps_ret pe_bl)) pss_nil)
      (pss_one (ps_ret (pe_cmpR op_gt (pe_got GW hr (pa_cons (pv 0) (pa_cons (pe_ix ix_tup (pv 2) pe_int (fun _ _ => rfl)) (pa_cons (pe_ix ix_tup (pv 2) pe_int (fun _ _ => rfl)) pa_nil))))
        (pe_got GW hr (pa_cons (pv 1) (pa_cons (pe_ix ix_tup (pv 2) pe_int (fun _ _ => rfl)) (pa_cons (pe_ix ix_tup (pv 2) pe_int (fun _ _ => rfl)) pa_nil)))) (nomark _)))))), ?_⟩
    rcases h with ⟨h, o⟩ | ⟨h, h2, o⟩ | ⟨t, u, e, g, rfl, rfl, he, hg, oe, og, r, hj, q⟩
    · exact ⟨_, rfl, x, rfl, .inr ⟨h, o⟩⟩
    · exact ⟨_, rfl, x, rfl, .inl ⟨h, fun H1 s1 => ⟨_, rfl, y, rfl, .inr ⟨h2.same s1, o.same s1⟩⟩⟩⟩
    · refine ⟨_, rfl, _, rfl, .inl ⟨eff_of he oe, fun H1 s1 => ⟨_, rfl, _, rfl, .inl ⟨eff_of (hg.same s1) og, fun H2 s2 => ?_⟩⟩⟩⟩
      have s12 := s1.trans s2
      have hj2 := hj.same s12
      have he2 := he.same s12
      have hg2 := hg.same s12
      have q2 : Q (.bl r) H2 := q H2 s12
      clear hj q
      cases hj2 with
      | no ty k => exact ⟨_, rfl, v, 2, rfl, .inr ⟨_, ty, k, false, rfl, iteT (iteT q2)⟩⟩
      | @len a xs ha hl => exact ⟨_, rfl, .ref a, 2, rfl, .inl ⟨a, xs, rfl, ha, _, rfl, by rw [decide_eq_false hl]; exact iteT (iteT q2)⟩⟩
      | @c0 a x y ha hc =>
        refine ⟨_, rfl, .ref a, 2, rfl, .inl ⟨a, _, rfl, ha, _, rfl, iteF ?_⟩⟩
        exact ⟨_, rfl, a, _, _, x, rfl, rfl, SqT.of ha, atI_nat (j := 0) rfl, x, false, rfl, hc, false, rfl, iteT (iteT q2)⟩
      | @c1 a x y ha hc hd =>
        refine ⟨_, rfl, .ref a, 2, rfl, .inl ⟨a, _, rfl, ha, _, rfl, iteF ?_⟩⟩
        refine ⟨_, rfl, a, _, _, x, rfl, rfl, SqT.of ha, atI_nat (j := 0) rfl, x, true, rfl, hc, true, rfl, iteF ?_⟩
        exact ⟨_, rfl, a, _, _, y, rfl, rfl, SqT.of ha, atI_nat (j := 1) rfl, y, false, rfl, hd, false, rfl, iteT q2⟩
      | @some a i j ha i0 j0 =>
        have a0 : atI [V.int i, V.int j] 0 = Option.some (V.int i) := atI_nat (j := 0) rfl
        have a1 : atI [V.int i, V.int j] 1 = Option.some (V.int j) := atI_nat (j := 1) rfl
        refine ⟨_, rfl, .ref a, 2, rfl, .inl ⟨a, _, rfl, ha, _, rfl, iteF ?_⟩⟩
        refine ⟨_, rfl, a, _, _, _, rfl, rfl, SqT.of ha, a0, _, true, rfl, cnt_pos i0, true, rfl, iteF ?_⟩
        refine ⟨_, rfl, a, _, _, _, rfl, rfl, SqT.of ha, a1, _, true, rfl, cnt_pos j0, true, rfl, iteF ?_⟩
        refine ⟨_, rfl, _, rfl, a, _, _, _, rfl, rfl, SqT.of ha, a0, _, rfl, a, _, _, _, rfl, rfl, SqT.of ha, a1, t, e, i, j, rfl, he2, ?_⟩
        exact ⟨_, rfl, _, rfl, a, _, _, _, rfl, rfl, SqT.of ha, a0, _, rfl, a, _, _, _, rfl, rfl, SqT.of ha, a1, u, g, i, j, rfl, hg2, _, _, rfl, rfl, q2⟩
end
end L2.K02
set_option Elab.async false
set_option linter.all false
set_option maxRecDepth 100000
set_option maxHeartbeats 4000000
namespace L2.K02
open PySem PySem.Spec PyProof.Rows L2.EV
/-! ### counts, as the law has them -/
abbrev sLC : Stmt := top 43
theorem scLC : FnScope ["_law_value"] ["_law_value"] (defScope sLC) := ⟨rfl, rfl, rfl, by decide +kernel, rfl, by decide +kernel, by decide +kernel⟩
section
variable {P : Program} {w : World} {K : PySem.W.Frag} {mg : Str → Option Value} {base : Heap} {f : Addr} {fd : FuncData}
theorem ok_lc (F : FnP K "_law_is_count" sLC f fd) (mIs : mg "isinstance" = none) (mI : mg "int" = none) (mB : mg "bool" = none) : FnOk P w K mg base CX0 1 f fd ["_law_value"] (spCnt K) := by
  refine F.ok scLC (fun vs H Q E h => ?_) (fun cdv A outer s H vs Q E hr h => ?_)
  · obtain ⟨v, r, rfl, _⟩ := h
    rfl
  · obtain ⟨v, r, rfl, h, q⟩ := h
    refine ⟨_, PSs.nox (pss_one (ps_ret (pe_and (pe_callB call_isi (by rfl) mIs (by decide +kernel) (pa_cons (pv 0) (pa_cons (pe_bltn (v := .ty "int") (u := .type "int") (by rfl) mI (by decide +kernel) rfl) pa_nil)))
      (pe_and (pe_not (pe_callB call_isi (by rfl) mIs (by decide +kernel) (pa_cons (pv 0) (pa_cons (pe_bltn (v := .ty "bool") (u := .type "bool") (by rfl) mB (by decide +kernel) rfl) pa_nil))))
        (pe_one (pe_cmpR op_ge (pv 0) pe_int (nomark _))))))), ?_⟩
    cases h with
    | int i =>
      refine ⟨_, rfl, .int i, .ty "int", _, _, true, rfl, .ty _, .base (.int i), kit_ty (by decide +kernel), true, rfl, iteT ?_⟩
      exact ⟨_, rfl, .int i, .ty "bool", _, _, false, rfl, .ty _, .base (.int i), kit_ty (by decide +kernel), false, rfl, true, rfl, iteT ⟨_, rfl, _, _, rfl, rfl, q⟩⟩
    | bl b =>
      refine ⟨_, rfl, .bl b, .ty "int", _, _, true, rfl, .ty _, .base (.bl b), kit_ty (by decide +kernel), true, rfl, iteT ?_⟩
      exact ⟨_, rfl, .bl b, .ty "bool", _, _, true, rfl, .ty _, .base (.bl b), kit_ty (by decide +kernel), true, rfl, false, rfl, iteF q⟩
    | oth ty k => exact ⟨_, rfl, v, .ty "int", _, _, false, rfl, .ty _, ty, k, false, rfl, iteF q⟩
end
/-! ### all effects -/
def Ef.T : Ef → T
  | .coins c => .tup [.v (.str "coins"), .v (.int c)]
  | .fill a b => .tup [.v (.str "fill"), .v (.int a), .v (.int b)]
theorem Ef.at {H : Hp} {x : V} {e : Ef} (h : Laid H x e.T) : ∃ t, x = .ref t ∧ EfAt H t e := by
  cases e with
  | coins c =>
    cases h with
    | tup h l =>
      cases l with
      | cons l1 l =>
        cases l with
        | cons l2 l =>
          cases l
          cases l1
          cases l2
          exact ⟨_, rfl, h⟩
  | fill c d =>
    cases h with
    | tup h l =>
      cases l with
      | cons l1 l =>
        cases l with
        | cons l2 l =>
          cases l with
          | cons l3 l =>
            cases l
            cases l1
            cases l2
            cases l3
            exact ⟨_, rfl, h⟩
def coinsTo (n : Nat) : List Ef := (List.range n).map fun (c : Nat) => .coins (c : Int)
def fillsTo (a n : Nat) : List Ef := (List.range n).map fun (c : Nat) => .fill (a : Int) (c : Int)
def efsTo : Nat → List Ef
  | 0 => coinsTo 4
  | a + 1 => efsTo a ++ fillsTo a 4
def efs : List Ef := efsTo 4
theorem efs_len : ∀ n, n ≤ 4 → (efsTo n).length ≤ 20 := by decide
theorem efs_ok : ∀ e ∈ efs, e.ok := by
  intro e he
  have h : e ∈ efsTo 4 := he
  simp only [efsTo, coinsTo, fillsTo, List.mem_append, List.mem_map, List.mem_range] at h
  rcases h with (((h | h) | h) | h) | h <;> obtain ⟨c, hc, rfl⟩ := h <;> simp only [Ef.ok] <;> omega
abbrev sAE : Stmt := top 37
abbrev nAE : List Str := ["_law_found", "_law_number", "_law_other"]
theorem scAE : FnScope nAE [] (defScope sAE) := ⟨rfl, rfl, rfl, by decide +kernel, rfl, by decide +kernel, by decide +kernel⟩
def spAE : Sp := fun vs H Q _ => vs = [] ∧ ∀ l xs H', Same H H' → H l = none → H' l = some (.lst xs) → Lds H' xs (efs.map Ef.T) → Q (.ref l) H'
section
variable {P : Program} {w : World} {K : PySem.W.Frag} {mg : Str → Option Value} {base : Heap} {f : Addr} {fd : FuncData}
theorem ok_alle (F : FnP K "_law_all_effects" sAE f fd) (mR : mg "range" = none) : FnOk P w K mg base CX0 1 f fd [] spAE := by
  refine F.ok scAE (fun vs H Q E h => ?_) (fun cdv A outer s H vs Q E hr h => ?_)
  · obtain ⟨rfl, _⟩ := h
    rfl
  · obtain ⟨rfl, q⟩ := h
    refine ⟨_, PSs.nox (pss_cons (ps_setLc (i := 0) (own := [("_law_number", 1)]) (g := gName 1) (tt := tYes) (by rfl) scAE.nd rfl rfl (by rfl) (pi_range1 (by rfl) mR (pa_cons pe_int pa_nil))
        (blkOk_by (own := [("_law_number", 1)]) (N := nAE) (sc := defScope sAE) (by decide +kernel)) (fun _ _ _ _ _ => pg_name (i := 1) scAE.nd rfl (by first | exact Or.inl rfl | exact Or.inr rfl)) (fun _ _ _ _ _ => pts_nil)
        (fun _ _ _ _ _ => pl_tup (pla_cons pl_str (pla_cons (pl_v 1) pla_nil))))
      (pss_cons (ps_for PassesOwn.never rfl (pi_range1 (by rfl) mR (pa_cons pe_int pa_nil)) (pg_name (i := 1) scAE.nd rfl (by first | exact Or.inl rfl | exact Or.inr rfl))
        (pss_one (ps_set (i := 0) scAE.nd rfl (Or.inl rfl) (pe_op op_cat (pv 0) (pe_lc (own := [("_law_other", 2)]) (g := gName 2) (tt := tYes) (by rfl) scAE.nd (pi_range1 (by rfl) mR (pa_cons pe_int pa_nil))
          (blkOk_by (own := [("_law_other", 2)]) (N := nAE) (sc := defScope sAE) (by decide +kernel)) (fun _ _ _ _ _ => pg_name (i := 2) scAE.nd rfl (by first | exact Or.inl rfl | exact Or.inr rfl)) (fun _ _ _ _ _ => pts_nil)
          (fun _ _ _ _ _ => pl_tup (pla_cons pl_str (pla_cons (pl_v 1) (pla_cons (pl_v 2) pla_nil)))))))))
      (pss_one (ps_ret (pv 0))))), ?_⟩
    refine ⟨4, rfl, by decide, by decide, fun D hD => ?_⟩
    refine lc_range (lo := 0) (n := 4) (fun m H' => Same H H' ∧ ∃ xs, H' D = some (.lst xs) ∧ Lds (hid H' D) xs ((coinsTo m).map Ef.T)) ⟨same_upd hD, [], upd_same, .nil⟩ ?_ ?_
    · rintro m H' hm ⟨s1, xs, gD, l⟩
      have hl : xs.length = m := by
        rw [← l.length, List.length_map]
        unfold coinsTo
        rw [List.length_map, List.length_range]
      refine ⟨rfl, ?_⟩
      dsimp only [tYes]
      rw [if_pos rfl]
      refine ⟨_, .tup (.cons (.v _) (.cons (.sl rfl) .nil)), fun y H4 s4 l4 => ⟨xs, s4 _ _ gD, small1000 (by omega), fun b o e => ?_, _, upd_same, ?_⟩⟩
      · rw [upd_ne (ne_of_none e hD)]
        exact s4 _ _ (s1 _ _ e)
      · rw [hid_upd]
        unfold coinsTo
        rw [List.range_succ, List.map_append, List.map_append]
        refine (l.same (hid_mono s4)).append (.cons ?_ .nil)
        have := l4.same (nw_hid gD)
        rw [Int.zero_add] at this
        exact this
    · rintro H1 ⟨s1, xs, gD, l⟩
      refine ⟨4, rfl, by decide, by decide, ?_⟩
      refine for_range (lo := 0) (n := 4) (fun i σ H' => Same H H' ∧ ∃ p ys v1, σ = [some (.ref p), v1, none] ∧ H p = none ∧ H' p = some (.lst ys) ∧ Lds H' ys ((efsTo i).map Ef.T)) ⟨s1, D, xs, none, rfl, hD, gD, l.same hid_old⟩ ?_ ?_
      · rintro i σ H2 hi ⟨s2, p, ys, v1, rfl, hp, gp, lp⟩
        have ly : ys.length ≤ 20 := by
          rw [← lp.length, List.length_map]
          exact efs_len i (by omega)
        refine ⟨_, rfl, 4, rfl, by decide, by decide, fun D2 hD2 => ?_⟩
        refine lc_range (lo := 0) (n := 4) (fun m H' => Same H2 H' ∧ ∃ xs, H' D2 = some (.lst xs) ∧ Lds (hid H' D2) xs ((fillsTo i m).map Ef.T)) ⟨same_upd hD2, [], upd_same, .nil⟩ ?_ ?_
        · rintro m H' hm ⟨s3, zs, gD2, l3⟩
          have hl : zs.length = m := by
            rw [← l3.length, List.length_map]
            unfold fillsTo
            rw [List.length_map, List.length_range]
          refine ⟨rfl, ?_⟩
          dsimp only [tYes]
          rw [if_pos rfl]
          refine ⟨_, .tup (.cons (.v _) (.cons (.sl rfl) (.cons (.sl rfl) .nil))), fun y H4 s4 l4 => ⟨zs, s4 _ _ gD2, small1000 (by omega), fun b o e => ?_, _, upd_same, ?_⟩⟩
          · rw [upd_ne (ne_of_none e hD2)]
            exact s4 _ _ (s3 _ _ e)
          · rw [hid_upd]
            unfold fillsTo
            rw [List.range_succ, List.map_append, List.map_append]
            refine (l3.same (hid_mono s4)).append (.cons ?_ .nil)
            have := l4.same (nw_hid gD2)
            rw [Int.zero_add, Int.zero_add] at this
            exact this
        · rintro H5 ⟨s3, zs, gD2, l3⟩
          have lz : zs.length = 4 := by
            rw [← l3.length, List.length_map]
            unfold fillsTo
            rw [List.length_map, List.length_range]
          refine ⟨p, D2, ys, zs, rfl, rfl, s3 _ _ gp, gD2, Nat.le_of_lt (small1000 (by omega)), fun r hr0 => ?_⟩
          have s4 := same_upd (o := .lst (ys ++ zs)) hr0
          have s25 := s2.trans s3
          refine ⟨s25.trans s4, r, _, _, rfl, s25.free hr0, upd_same, ?_⟩
          show Lds _ _ ((efsTo i ++ fillsTo i 4).map Ef.T)
          rw [List.map_append]
          exact (lp.same (s3.trans s4)).append ((l3.same hid_old).same s4)
      · rintro σ H2 ⟨s2, p, ys, v1, rfl, hp, gp, lp⟩
        exact ⟨_, rfl, q p ys H2 s2 hp gp lp⟩
end
end L2.K02
set_option Elab.async false
set_option linter.all false
set_option maxRecDepth 100000
set_option maxHeartbeats 4000000
namespace L2.K02
open PySem PySem.Spec PyProof.Rows L2.EV
/-! ### what a laid thing is -/
/-- the type of a thing; none where a leaf is no plain value -/
def tyT : T → Option String
  | .v .non => some "NoneType"
  | .v (.bl _) => some "bool"
  | .v (.int _) => some "int"
  | .v (.str _) => some "str"
  | .tup _ => some "tuple"
  | .lst _ => some "list"
  | .dct _ _ => some "dict"
  | _ => none
theorem ty_T {K : PySem.W.Frag} {H : Hp} {x : V} {t : T} {n : String} (h : Laid H x t) (e : tyT t = some n) : TyX K H x (.type n) := by
  cases h with
  | v x =>
    cases x <;> first | cases e | skip
    · exact .base .non
    · exact .base (.bl _)
    · exact .base (.int _)
    · exact .base (.str _)
  | tup h l =>
    cases e
    exact .base (.tup h)
  | lst h l =>
    cases e
    exact .base (.lst h)
  | dct h l =>
    cases e
    exact .base (.dK h)
def isT (n m : String) : Bool := (kitB n m).getD false
theorem kit_T {K : PySem.W.Frag} {t : T} {n : String} (e : tyT t = some n) (m : String) (hm : m ∈ (["bool", "int", "str", "tuple", "list", "dict"] : List String)) : PySem.W.kitOne K (.type n) (.type m) = some (isT n m) := by
  have all : (["NoneType", "bool", "int", "str", "tuple", "list", "dict"] : List String).all (fun n => (["bool", "int", "str", "tuple", "list", "dict"] : List String).all fun m => (kitB n m).isSome) = true := by decide +kernel
  have hn : n ∈ (["NoneType", "bool", "int", "str", "tuple", "list", "dict"] : List String) := by
    unfold tyT at e
    split at e <;> first | cases e | skip
    all_goals simp
  have h := List.all_eq_true.mp (List.all_eq_true.mp all n hn) m hm
  obtain ⟨b, hb⟩ := Option.isSome_iff_exists.mp h
  refine kit_ty (by unfold isT; rw [hb]; rfl)
def cntT : T → Bool
  | .v (.int i) => decide (0 ≤ i)
  | _ => false
def numT : T → Bool
  | .v (.int i) => decide (0 ≤ i) && decide (i ≤ 3)
  | _ => false
def effT : T → Bool
  | .tup (.v (.str z) :: ts) => (match behind z with
    | some k => decide (ts.length = k) && ts.all numT
    | none => false)
  | _ => false
def wdT : T → Bool
  | .v (.str x) => wordB x
  | _ => false
def manT : T → Bool
  | .tup [a, b, c, e] => effT e && (wdT a && (wdT b && wdT c))
  | _ => false
mutual
/-- leaves plain, texts short, lists and tuples of plain things short -/
def okT : T → Bool
  | .v (.str x) => decide (x.length ≤ 900)
  | .v x => flatV x
  | .tup ts => decide (ts.length ≤ 900) && oksT ts
  | .lst ts => decide (ts.length ≤ 900) && oksT ts
  | .dct ks ts => decide (ts.length ≤ 900) && lfsT ts
  | _ => false
def oksT : List T → Bool
  | [] => true
  | t :: ts => okT t && oksT ts
/-- plain leaves alone -/
def lfsT : List T → Bool
  | [] => true
  | .v x :: ts => flatV x && lfsT ts
  | _ :: _ => false
end
theorem ok_ty : ∀ {t : T}, okT t = true → ∃ n, tyT t = some n := by
  intro t h
  cases t with
  | v x =>
    cases x <;> first | exact ⟨_, rfl⟩ | (unfold okT at h; cases h)
  | tup ts => exact ⟨_, rfl⟩
  | lst ts => exact ⟨_, rfl⟩
  | dct ks ts => exact ⟨_, rfl⟩
  | sl i =>
    unfold okT at h
    cases h
  | op f a b =>
    unfold okT at h
    cases h
theorem cnt_T {K : PySem.W.Frag} {H : Hp} {x : V} {t : T} (o : okT t = true) (h : Laid H x t) : Cnt K H x (cntT t) := by
  obtain ⟨n, e⟩ := ok_ty o
  have ty := ty_T (K := K) h e
  have ki := kit_T (K := K) e "int" (by simp)
  cases h with
  | v x =>
    cases x with
    | int i => exact .int i
    | bl b => exact .bl b
    | non =>
      cases e
      exact .oth ty ki
    | str y =>
      cases e
      exact .oth ty ki
    | byt y => cases e
    | flt y => cases e
    | ref a => cases e
    | ty m => cases e
  | tup h l =>
    cases e
    exact .oth ty ki
  | lst h l =>
    cases e
    exact .oth ty ki
  | dct h l =>
    cases e
    exact .oth ty ki
theorem num_T {K : PySem.W.Frag} {H : Hp} {x : V} {t : T} (o : okT t = true) (h : Laid H x t) : Num K H x (numT t) := by
  obtain ⟨n, e⟩ := ok_ty o
  have ty : ∀ H', Same H H' → TyX K H' x (.type n) := fun H' s => ty_T (h.same s) e
  have ki := kit_T (K := K) e "int" (by simp)
  cases h with
  | v x =>
    cases x with
    | int i => exact .int i
    | bl b => exact .bl b
    | non =>
      cases e
      exact .oth ty ki
    | str y =>
      cases e
      exact .oth ty ki
    | byt y => cases e
    | flt y => cases e
    | ref a => cases e
    | ty m => cases e
  | tup h l =>
    cases e
    exact .oth ty ki
  | lst h l =>
    cases e
    exact .oth ty ki
  | dct h l =>
    cases e
    exact .oth ty ki
theorem wd_T {K : PySem.W.Frag} {H : Hp} {x : V} {t : T} (o : okT t = true) (h : Laid H x t) : WdF K H x (wdT t) := by
  obtain ⟨n, e⟩ := ok_ty o
  have ty : ∀ H', Same H H' → TyX K H' x (.type n) := fun H' s => ty_T (h.same s) e
  have ki := kit_T (K := K) e "str" (by simp)
  cases h with
  | v x =>
    cases x with
    | str y =>
      unfold okT at o
      exact .str (Nat.le_of_lt (small1000 (by have := of_decide_eq_true o; omega)))
    | int i =>
      cases e
      exact .oth ty ki
    | bl b =>
      cases e
      exact .oth ty ki
    | non =>
      cases e
      exact .oth ty ki
    | byt y => cases e
    | flt y => cases e
    | ref a => cases e
    | ty m => cases e
  | tup h l =>
    cases e
    exact .oth ty ki
  | lst h l =>
    cases e
    exact .oth ty ki
  | dct h l =>
    cases e
    exact .oth ty ki
theorem oks_at : ∀ {ts : List T} {i : Nat} {t : T}, oksT ts = true → ts[i]? = some t → okT t = true
  | u :: us, 0, t, o, e => by
    unfold oksT at o
    cases e
    exact (Bool.and_eq_true_iff.mp o).1
  | u :: us, i + 1, t, o, e => by
    unfold oksT at o
    exact oks_at (i := i) (Bool.and_eq_true_iff.mp o).2 e
theorem eff_T {K : PySem.W.Frag} {H : Hp} {x : V} {t : T} (o : okT t = true) (h : Laid H x t) : EffF K H x (effT t) := by
  obtain ⟨n, e⟩ := ok_ty o
  have ty := ty_T (K := K) h e
  have ki := kit_T (K := K) e "tuple" (by simp)
  cases h with
  | v x =>
    cases x <;> cases e <;> exact .no ty ki
  | lst h l =>
    cases e
    exact .no ty ki
  | dct h l =>
    cases e
    exact .no ty ki
  | @tup a xs ts h l =>
    have o2 : oksT ts = true := by
      unfold okT at o
      exact (Bool.and_eq_true_iff.mp o).2
    cases l with
    | nil => exact .nil h
    | @cons y u ys us l1 l2 =>
      have ou : okT u = true := oks_at (i := 0) o2 rfl
      obtain ⟨m, e1⟩ := ok_ty ou
      have ty1 := ty_T (K := K) l1 e1
      have ki1 := kit_T (K := K) e1 "str" (by simp)
      cases l1 with
      | v y =>
        cases y with
        | str z =>
          cases hz : behind z with
          | none =>
            have : effT (.tup (.v (.str z) :: us)) = false := by
              show (match behind z with | some k => decide (us.length = k) && us.all numT | none => false) = _
              rw [hz]
            rw [this]
            exact .word h hz
          | some k =>
            have er : effT (.tup (.v (.str z) :: us)) = (decide (us.length = k) && us.all numT) := by
              show (match behind z with | some k => decide (us.length = k) && us.all numT | none => false) = _
              rw [hz]
            rw [er]
            by_cases hk : us.length = k
            · rw [decide_eq_true hk, Bool.true_and]
              have hl : ys.length = k := by rw [← l2.length]; exact hk
              have e2 : us.all numT = (us.map numT).all id := by rw [List.all_map]; rfl
              rw [e2]
              refine EffF.some h (by rw [hz, hl]) (by rw [List.length_map, l2.length]) fun i x r hx hr => ?_
              rw [List.getElem?_map] at hr
              obtain ⟨t, ht, lt⟩ := l2.at hx
              rw [ht] at hr
              obtain rfl : numT t = r := Option.some.inj hr
              exact num_T (oks_at (i := i + 1) o2 ht) lt
            · rw [decide_eq_false hk]
              exact .len h hz (by rw [← l2.length]; exact hk)
        | int i =>
          cases e1
          exact .odd h ty1 ki1
        | bl b =>
          cases e1
          exact .odd h ty1 ki1
        | non =>
          cases e1
          exact .odd h ty1 ki1
        | byt y => cases e1
        | flt y => cases e1
        | ref a => cases e1
        | ty m => cases e1
      | tup h2 _ =>
        cases e1
        exact .odd h ty1 ki1
      | lst h2 _ =>
        cases e1
        exact .odd h ty1 ki1
      | dct h2 _ =>
        cases e1
        exact .odd h ty1 ki1
theorem man_T {K : PySem.W.Frag} {H : Hp} {x : V} {t : T} (o : okT t = true) (h : Laid H x t) : ManF K H x (manT t) := by
  obtain ⟨n, e⟩ := ok_ty o
  have ty := ty_T (K := K) h e
  have ki := kit_T (K := K) e "tuple" (by simp)
  cases h with
  | v x =>
    cases x <;> cases e <;> exact .no ty ki
  | lst h l =>
    cases e
    exact .no ty ki
  | dct h l =>
    cases e
    exact .no ty ki
  | @tup a xs ts h l =>
    have o2 : oksT ts = true := by
      unfold okT at o
      exact (Bool.and_eq_true_iff.mp o).2
    by_cases h4 : ts.length = 4
    · match ts, h4, l, o2 with
      | [t1, t2, t3, t4], _, .cons l1 (.cons l2 (.cons l3 (.cons l4 .nil))), o2 =>
        have q1 := wd_T (K := K) (oks_at (i := 0) o2 rfl) l1
        have q2 := wd_T (K := K) (oks_at (i := 1) o2 rfl) l2
        have q3 := wd_T (K := K) (oks_at (i := 2) o2 rfl) l3
        have q4 := eff_T (K := K) (oks_at (i := 3) o2 rfl) l4
        have er : manT (.tup [t1, t2, t3, t4]) = (effT t4 && (wdT t1 && (wdT t2 && wdT t3))) := rfl
        rw [er]
        cases he : effT t4 with
        | false =>
          rw [he] at q4
          exact .eff h q4
        | true =>
          rw [he] at q4
          have e3 : (true && (wdT t1 && (wdT t2 && wdT t3))) = [wdT t1, wdT t2, wdT t3].all id := by simp
          rw [e3]
          refine .some h q4 ⟨rfl, fun i x r hx hr => ?_⟩
          match i, hx, hr with
          | 0, hx, hr =>
            cases hx
            cases hr
            exact q1
          | 1, hx, hr =>
            cases hx
            cases hr
            exact q2
          | 2, hx, hr =>
            cases hx
            cases hr
            exact q3
    · have er : manT (.tup ts) = false := by
        unfold manT
        split
        · next q =>
          cases q
          exact absurd rfl h4
        · rfl
      rw [er]
      exact .len h (by rw [← l.length]; exact h4)
/-! ### alike with itself -/
mutual
def dpT : T → Nat
  | .tup ts => dpsT ts + 1
  | .lst ts => dpsT ts + 1
  | .dct _ _ => 3
  | _ => 1
def dpsT : List T → Nat
  | [] => 1
  | t :: ts => max (dpT t) (dpsT ts)
end
theorem Alk.mono {H : Hp} : ∀ {n m : Nat} {x y : V}, Alk H n x y → n ≤ m → Alk H m x y := by
  intro n m x y h
  induction h generalizing m with
  | flat h =>
    intro l
    obtain ⟨k, rfl⟩ : ∃ k, m = k + 1 := ⟨m - 1, by omega⟩
    exact .flat h
  | lst h1 h2 h3 h4 _ ih =>
    intro l
    obtain ⟨k, rfl⟩ : ∃ k, m = k + 1 := ⟨m - 1, by omega⟩
    exact .lst h1 h2 h3 h4 fun i x y a b => ih i x y a b (by omega)
  | tup h1 h2 h3 h4 _ ih =>
    intro l
    obtain ⟨k, rfl⟩ : ∃ k, m = k + 1 := ⟨m - 1, by omega⟩
    exact .tup h1 h2 h3 h4 fun i x y a b => ih i x y a b (by omega)
  | dct h1 h2 h3 h4 =>
    intro l
    obtain ⟨k, rfl⟩ : ∃ k, m = k + 3 := ⟨m - 3, by omega⟩
    exact .dct h1 h2 h3 h4
theorem lfs_flat {H : Hp} : ∀ {xs : List V} {ts : List T}, Lds H xs ts → lfsT ts = true → ∀ x ∈ xs, flatV x = true
  | _, _, .nil, _, x, hx => by cases hx
  | _, _, .cons (t := t) h l, o, x, hx => by
    cases h with
    | v y =>
      unfold lfsT at o
      obtain ⟨o1, o2⟩ := Bool.and_eq_true_iff.mp o
      rcases List.mem_cons.mp hx with rfl | hx
      · exact o1
      · exact lfs_flat l o2 x hx
    | tup _ _ =>
      unfold lfsT at o
      cases o
    | lst _ _ =>
      unfold lfsT at o
      cases o
    | dct _ _ =>
      unfold lfsT at o
      cases o
mutual
theorem alk_self {H : Hp} : ∀ {x : V} {t : T}, Laid H x t → okT t = true → Alk H (dpT t) x x
  | _, _, .v x, o => .flat (by
    cases x <;> first | rfl | (unfold okT at o; exact o))
  | _, _, .tup (ts := ts) h l, o => by
    unfold okT at o
    obtain ⟨o1, o2⟩ := Bool.and_eq_true_iff.mp o
    have := of_decide_eq_true o1
    have hl := l.length
    exact .tup h h rfl (by omega) (alks_self l o2)
  | _, _, .lst (ts := ts) h l, o => by
    unfold okT at o
    obtain ⟨o1, o2⟩ := Bool.and_eq_true_iff.mp o
    have := of_decide_eq_true o1
    have hl := l.length
    exact .lst h h rfl (by omega) (alks_self l o2)
  | _, _, .dct (kvs := kvs) h l, o => by
    unfold okT at o
    obtain ⟨o1, o2⟩ := Bool.and_eq_true_iff.mp o
    have := of_decide_eq_true o1
    have hl := l.length
    rw [List.length_map] at hl
    exact Alk.dct (n := 0) h h (by omega) fun p hp => lfs_flat l o2 p.2 (List.mem_map_of_mem hp)
theorem alks_self {H : Hp} : ∀ {xs : List V} {ts : List T}, Lds H xs ts → oksT ts = true → ∀ (i : Nat) (x y : V), xs[i]? = some x → xs[i]? = some y → Alk H (dpsT ts) x y
  | _, _, .nil, _, i, x, y, hx, _ => by cases hx
  | _, _, .cons (t := t) (ts := ts) h l, o, i, x, y, hx, hy => by
    unfold oksT at o
    obtain ⟨o1, o2⟩ := Bool.and_eq_true_iff.mp o
    have e : dpsT (t :: ts) = max (dpT t) (dpsT ts) := by rw [dpsT]
    rw [e]
    match i, hx, hy with
    | 0, hx, hy =>
      cases hx
      cases hy
      exact (alk_self h o1).mono (Nat.le_max_left _ _)
    | i + 1, hx, hy => exact (alks_self l o2 i x y hx hy).mono (Nat.le_max_right _ _)
end
end L2.K02
set_option Elab.async false
set_option linter.all false
set_option maxRecDepth 100000
set_option maxHeartbeats 4000000
namespace L2.K02
open PySem PySem.Spec PyProof.Rows L2.EV
/-! ### the law's own sum -/
abbrev sSm : Stmt := top 38
abbrev pSm : List Str := ["_law_effect", "_law_ahead", "_law_behind"]
abbrev nSm : List Str := ["_law_effect", "_law_ahead", "_law_behind", "_law_spent"]
theorem scSm : FnScope nSm pSm (defScope sSm) := ⟨rfl, rfl, rfl, by decide +kernel, rfl, by decide +kernel, by decide +kernel⟩
def spSm : Sp := fun vs H Q _ => ∃ (t : Addr) (e : Ef) (i j : Int), vs = [.ref t, .int i, .int j] ∧ EfAt H t e ∧ ∀ H', Same H H' → Q (.int (e.wt i j)) H'
section
variable {P : Program} {w : World} {K : PySem.W.Frag} {mg : Str → Option Value} {base : Heap} {f : Addr} {fd : FuncData}
theorem ok_sm (F : FnP K "_law_sum" sSm f fd) (mL : mg "len" = none) : FnOk P w K mg base CX0 1 f fd pSm spSm := by
  refine F.ok scSm (fun vs H Q E h => ?_) (fun cdv A outer s H vs Q E hr h => ?_)
  · obtain ⟨t, e, i, j, rfl, _⟩ := h
    rfl
  · obtain ⟨t, e, i, j, rfl, he, q⟩ := h
    refine ⟨_, PSs.nox (pss_cons (ps_if (pt_cmpR op_eq (pe_callB call_len_seq (by rfl) mL PySem.boot_len (pa_cons (pv 0) pa_nil)) pe_int (nomark _))
        (pss_one (ps_ret (pe_op op_add (pe_op op_add (pv 1) (pe_ix ix_tup (pv 0) pe_int (fun _ _ => rfl))) (pv 2)))) pss_nil)
      (pss_cons (ps_set (i := 3) scSm.nd rfl (Or.inl rfl) (pe_lst (pa_cons (pe_op op_add (pv 1) (pe_ix ix_tup (pv 0) pe_int (fun _ _ => rfl))) (pa_cons (pe_op op_add (pe_ix ix_tup (pv 0) pe_int (fun _ _ => rfl)) (pv 2)) pa_nil))))
      (pss_one (ps_ret (pe_ifExp (pt_cmpR op_gt (pe_ix ix_list (pv 3) pe_int (fun _ _ => rfl)) (pe_ix ix_list (pv 3) pe_int (fun _ _ => rfl)) (nomark _)) (pe_ix ix_list (pv 3) pe_int (fun _ _ => rfl)) (pe_ix ix_list (pv 3) pe_int (fun _ _ => rfl))))))), ?_⟩
    have S : SqT K H t e.vs := SqT.of he
    cases e with
    | coins c =>
      refine ⟨_, rfl, t, _, rfl, .inr S, rfl, _, rfl, iteT ?_⟩
      exact ⟨_, rfl, _, rfl, t, _, _, _, rfl, rfl, S, atI_nat (j := 1) rfl, _, _, rfl, rfl, _, rfl, _, _, rfl, rfl, q H fun _ _ e => e⟩
    | fill c d =>
      refine ⟨_, rfl, t, _, rfl, .inr S, rfl, _, rfl, iteF ?_⟩
      refine ⟨_, rfl, _, rfl, t, _, _, _, rfl, rfl, S, atI_nat (j := 1) rfl, _, _, rfl, rfl, _, rfl, t, _, _, _, rfl, rfl, S, atI_nat (j := 2) rfl, _, rfl, _, _, rfl, rfl, (by show 2 ≤ sizeLine; decide), fun p hp => ?_⟩
      have s1 := same_upd (o := .lst [.int (i + c), .int (d + j)]) hp
      have L : SqL K (upd H p (.lst [.int (i + c), .int (d + j)])) p [.int (i + c), .int (d + j)] := SqL.of upd_same
      have a0 : atI [V.int (i + c), V.int (d + j)] 0 = some (V.int (i + c)) := atI_nat (j := 0) rfl
      have a1 : atI [V.int (i + c), V.int (d + j)] 1 = some (V.int (d + j)) := atI_nat (j := 1) rfl
      have qq := q _ s1
      refine ⟨_, rfl, p, _, _, _, rfl, rfl, L, a0, _, rfl, p, _, _, _, rfl, rfl, L, a1, _, _, rfl, rfl, _, rfl, ?_⟩
      have ew : Ef.wt (.fill c d) i j = if d + j > i + c then d + j else i + c := rfl
      rw [ew] at qq
      refine ite2 (fun h => ?_) (fun h => ?_)
      · have h' := of_decide_eq_true h
        rw [if_neg (by omega)] at qq
        exact ⟨_, rfl, p, _, _, _, rfl, rfl, L, a0, qq⟩
      · have h' : ¬ (d + j < i + c) := fun z => h (decide_eq_true z)
        refine ⟨_, rfl, p, _, _, _, rfl, rfl, L, a1, ?_⟩
        by_cases h2 : d + j > i + c
        · rw [if_pos h2] at qq
          exact qq
        · rw [if_neg h2] at qq
          have : i + c = d + j := by omega
          exact Eq.mp (congrArg (fun z => Q (V.int z) (upd H p (.lst [.int (i + c), .int (d + j)]))) this) qq
end
/-! ### sides that part two effects, up to six -/
def rowP (e g : Ef) (a n : Nat) : List (Int × Int) := ((List.range n).map fun (b : Nat) => ((a : Int), (b : Int))).filter (parts e g)
def ptdTo (e g : Ef) : Nat → List (Int × Int)
  | 0 => []
  | a + 1 => ptdTo e g a ++ rowP e g a 7
def ptd (e g : Ef) : List (Int × Int) := ptdTo e g 7
def pT (p : Int × Int) : T := .tup [.v (.int p.1), .v (.int p.2)]
theorem rowP_succ (e g : Ef) (a n : Nat) : rowP e g a (n + 1) = rowP e g a n ++ if parts e g ((a : Int), (n : Int)) = true then [((a : Int), (n : Int))] else [] := by
  unfold rowP
  rw [List.range_succ, List.map_append, List.filter_append]
  congr 1
  cases h : parts e g ((a : Int), (n : Int)) <;> simp [h]
theorem rowP_len (e g : Ef) (a n : Nat) : (rowP e g a n).length ≤ n := by
  unfold rowP
  refine Nat.le_trans (List.length_filter_le _ _) ?_
  rw [List.length_map, List.length_range]
  exact Nat.le_refl n
theorem ptdTo_len (e g : Ef) : ∀ n, (ptdTo e g n).length ≤ 7 * n
  | 0 => Nat.le_refl 0
  | n + 1 => by
    have h1 := ptdTo_len e g n
    have h2 := rowP_len e g n 7
    show (ptdTo e g n ++ rowP e g n 7).length ≤ _
    rw [List.length_append]
    omega
abbrev sPd : Stmt := top 39
abbrev pPd : List Str := ["_law_one", "_law_other", "_law_most"]
abbrev nPd : List Str := ["_law_one", "_law_other", "_law_most", "_law_found", "_law_ahead", "_law_behind"]
theorem scPd : FnScope nPd pPd (defScope sPd) := ⟨rfl, rfl, rfl, by decide +kernel, rfl, by decide +kernel, by decide +kernel⟩
def spPd : Sp := fun vs H Q _ => ∃ (t u : Addr) (e g : Ef), vs = [.ref t, .ref u, .int 7] ∧ EfAt H t e ∧ EfAt H u g ∧ ∀ l xs H', Same H H' → H l = none → H' l = some (.lst xs) → Lds H' xs ((ptd e g).map pT) → Q (.ref l) H'
section
variable {P : Program} {w : World} {K : PySem.W.Frag} {mg : Str → Option Value} {base : Heap} {f : Addr} {fd : FuncData}
theorem ok_pd (F : FnP K "_law_parted" sPd f fd) (GS : Got P w K mg base 1 "_law_sum" pSm spSm) (mR : mg "range" = none) : FnOk P w K mg base CX0 2 f fd pPd spPd := by
  refine F.ok scPd (fun vs H Q E h => ?_) (fun cdv A outer s H vs Q E hr h => ?_)
  · obtain ⟨t, u, e, g, rfl, _⟩ := h
    rfl
  · obtain ⟨t, u, e, g, rfl, he, hg, q⟩ := h
    refine ⟨_, PSs.nox (pss_cons (ps_set (i := 3) scPd.nd rfl (Or.inl rfl) (pe_lst pa_nil))
      (pss_cons (ps_for PassesOwn.never rfl (pi_range1 (by rfl) mR (pa_cons (pv 2) pa_nil)) (pg_name (i := 4) scPd.nd rfl (Or.inl rfl))
        (pss_one (ps_for PassesOwn.never rfl (pi_range1 (by rfl) mR (pa_cons (pv 2) pa_nil)) (pg_name (i := 5) scPd.nd rfl (Or.inl rfl))
          (pss_one (ps_if (pt_cmpR op_gt (pe_got GS hr (pa_cons (pv 0) (pa_cons (pv 4) (pa_cons (pv 5) pa_nil)))) (pe_got GS hr (pa_cons (pv 1) (pa_cons (pv 4) (pa_cons (pv 5) pa_nil)))) (nomark _))
            (pss_one (ps_expr (pe_bm PySem.F.plainAttrs_list PySem.F.slot_list_append PySem.F.type_list_append mt_append (pv 3) (pa_cons (pl_tup (pla_cons (pl_v 4) (pla_cons (pl_v 5) pla_nil))) pa_nil)))) pss_nil)))))
      (pss_one (ps_ret (pv 3))))), ?_⟩
    refine ⟨Nat.zero_le _, fun l hl => ?_⟩
    have s0 := same_upd (o := .lst []) hl
    refine ⟨_, rfl, 7, rfl, by decide, by decide, ?_⟩
    refine for_range (lo := 0) (n := 7) (fun i σ H' => ∃ v4 v5 xs, σ = [some (.ref t), some (.ref u), some (.int 7), some (.ref l), v4, v5] ∧ Same H H' ∧ H' l = some (.lst xs) ∧ Lds (hid H' l) xs ((ptdTo e g i).map pT))
      ⟨none, none, [], rfl, s0, upd_same, .nil⟩ ?_ ?_
    · rintro i σ H1 hi ⟨v4, v5, xs, rfl, s1, g1, l1⟩
      refine ⟨_, rfl, 7, rfl, by decide, by decide, ?_⟩
      refine for_range (lo := 0) (n := 7) (fun j σ H' => ∃ v5 xs, σ = [some (.ref t), some (.ref u), some (.int 7), some (.ref l), some (.int (0 + (i : Int))), v5] ∧ Same H H' ∧ H' l = some (.lst xs) ∧ Lds (hid H' l) xs ((ptdTo e g i ++ rowP e g i j).map pT))
        ⟨v5, xs, rfl, s1, g1, by rw [show rowP e g i 0 = [] from rfl, List.append_nil]; exact l1⟩ ?_ ?_
      · rintro j σ H2 hj ⟨w5, ys, rfl, s2, g2, l2⟩
        have ly : ys.length ≤ 60 := by
          have h1 := ptdTo_len e g i
          have h2 := rowP_len e g i j
          have h3 := l2.length
          rw [List.length_map, List.length_append] at h3
          omega
        refine ⟨_, rfl, _, rfl, _, rfl, t, e, _, _, rfl, he.same s2, fun H3 s3 => ?_⟩
        have s23 := s2.trans s3
        refine ⟨_, rfl, _, rfl, _, rfl, u, g, _, _, rfl, hg.same s23, fun H4 s4 => ?_⟩
        have s24 := s23.trans s4
        have s34 := s3.trans s4
        have ep : decide (g.wt (0 + (i : Int)) (0 + (j : Int)) < e.wt (0 + (i : Int)) (0 + (j : Int))) = parts e g ((i : Int), (j : Int)) := by rw [Int.zero_add, Int.zero_add]; rfl
        refine ⟨_, _, rfl, rfl, _, rfl, ?_⟩
        rw [ep]
        have eR := rowP_succ e g i j
        refine ite2 (fun h => ?_) (fun h => ?_)
        · rw [if_pos h] at eR
          refine ⟨_, rfl, .inl ⟨rfl, _, SqL.of (s34 _ _ g2)⟩, _, .tup (.cons (.sl rfl) (.cons (.sl rfl) .nil)), fun y H5 s5 l5 => ?_⟩
          have s25 := s34.trans s5
          refine ⟨l, ys, y, rfl, rfl, s25 _ _ g2, small1000 (by omega), ?_⟩
          refine ⟨_, _, rfl, fun b o z => ?_, upd_same, ?_⟩
          · rw [upd_ne (ne_of_none z hl)]
            exact (s24.trans s5) _ _ z
          · rw [hid_upd, eR, ← List.append_assoc, List.map_append]
            refine (l2.same (hid_mono s25)).append (.cons ?_ .nil)
            have z := l5.same (nw_hid (s34 _ _ g2))
            rw [Int.zero_add, Int.zero_add] at z
            exact z
        · rw [if_neg h, List.append_nil] at eR
          refine ⟨_, _, rfl, s24, s34 _ _ g2, ?_⟩
          rw [eR]
          exact l2.same (hid_mono s34)
      · rintro σ H2 ⟨w5, ys, rfl, s2, g2, l2⟩
        exact ⟨_, _, ys, rfl, s2, g2, l2⟩
    · rintro σ H1 ⟨v4, v5, xs, rfl, s1, g1, l1⟩
      exact ⟨_, rfl, q l xs H1 s1 hl g1 (l1.same hid_old)⟩
end
mutual
/-- no names, no sums -/
def clT : T → Bool
  | .v _ => true
  | .tup ts => clsT ts
  | .lst ts => clsT ts
  | .dct _ ts => clsT ts
  | _ => false
def clsT : List T → Bool
  | [] => true
  | t :: ts => clT t && clsT ts
end
mutual
theorem val_self {σ : St} : ∀ {t : T}, clT t = true → Val σ t t
  | .v x, _ => .v x
  | .tup ts, h => .tup (vls_self (by unfold clT at h; exact h))
  | .lst ts, h => .lst (vls_self (by unfold clT at h; exact h))
  | .dct ks ts, h => .dct (vls_self (by unfold clT at h; exact h))
  | .sl i, h => by unfold clT at h; cases h
  | .op f a b, h => by unfold clT at h; cases h
theorem vls_self {σ : St} : ∀ {ts : List T}, clsT ts = true → Vls σ ts ts
  | [], _ => .nil
  | t :: ts, h => by
    unfold clsT at h
    obtain ⟨h1, h2⟩ := Bool.and_eq_true_iff.mp h
    exact .cons (val_self h1) (vls_self h2)
end
/-! ### odd effects -/
abbrev sOE : Stmt := top 44
theorem scOE : FnScope ["_law_found"] [] (defScope sOE) := ⟨rfl, rfl, rfl, by decide +kernel, rfl, by decide +kernel, by decide +kernel⟩
def odd0 : List T := [.tup [.v (.str "coins")], .tup [.v (.str "coins"), .v (.int 4)], .tup [.v (.str "coins"), .v (.int (-1))], .tup [.v (.str "coins"), .v (.bl true)], .tup [.v (.str "coins"), .v (.str "1")], .tup [.v (.str "coins"), .v .non], .tup [.v (.str "coins"), .v (.int 1), .v (.int 1)], .tup [.v (.str "fill"), .v (.int 1)]]
def odd1 : List T := [.tup [.v (.str "fill"), .v (.int 4), .v (.int 0)], .tup [.v (.str "fill"), .v (.int 0), .v (.int 4)], .tup [.v (.str "fill"), .v (.int 0), .v (.int (-1))], .tup [.v (.str "fill"), .v (.int 0), .v (.bl false)], .tup [.v (.str "fill"), .v (.int 0), .v (.int 0), .v (.int 0)], .tup [.v (.str "fill"), .tup [.v (.int 0), .v (.int 0)]], .tup [.v (.str "full"), .v (.int 0), .v (.int 0)]]
def odd2 : List T := [.lst [.v (.str "coins"), .v (.int 1)], .lst [.v (.str "fill"), .v (.int 0), .v (.int 0)], .tup [.v (.str "fill")], .tup [], .lst [], .v .non, .v (.int 0), .v (.int 1), .v (.bl true), .v (.str "coins"), .dct [.inr "coins"] [.v (.int 1)], .tup [.v (.str "coins"), .v (.int (10 ^ (20 : Int).toNat))], .tup [.v (.int 1), .v (.str "coins")]]
def odd3 : List T := [.tup [.v (.str "Coins"), .v (.int 1)], .tup [.v (.str "coin"), .v (.int 1)], .tup [.tup [.v (.str "coins"), .v (.int 1)]], .tup [.v (.str "coins"), .lst [.v (.int 1)]], .tup [.v (.str "fill"), .v (.bl true), .v (.int 0)], .tup [.v (.str "fill"), .v (.int (-1)), .v (.int 0)], .tup [.v (.str "fill"), .v .non, .v (.int 0)], .tup [.lst [], .v (.int 1)], .tup [.dct [] [], .v (.int 1)], .tup [.lst [.v (.str "coins")], .v (.int 1)]]
def odds : List T := odd0 ++ odd1 ++ odd2 ++ odd3
theorem odds_ok : oksT odds = true := by decide +kernel
theorem odds_eff : odds.all (fun t => !effT t) = true := by decide +kernel
def spOE : Sp := fun vs H Q _ => vs = [] ∧ ∀ l xs H', Same H H' → H l = none → H' l = some (.lst xs) → Lds H' xs odds → Q (.ref l) H'
section
variable {P : Program} {w : World} {K : PySem.W.Frag} {mg : Str → Option Value} {base : Heap} {f : Addr} {fd : FuncData}
theorem ok_oe (F : FnP K "_law_odd_effects" sOE f fd) : FnOk P w K mg base CX0 1 f fd [] spOE := by
  refine F.ok scOE (fun vs H Q E h => ?_) (fun cdv A outer s H vs Q E hr h => ?_)
  · obtain ⟨rfl, _⟩ := h
    rfl
  · obtain ⟨rfl, q⟩ := h
    refine ⟨_, PSs.nox (pss_cons (ps_set (i := 0) scOE.nd rfl (Or.inl rfl) (pl_lst (pla_cons (pl_tup (pla_cons pl_str pla_nil)) (pla_cons (pl_tup (pla_cons pl_str (pla_cons pl_int pla_nil))) (pla_cons (pl_tup (pla_cons pl_str (pla_cons pl_neg pla_nil))) (pla_cons (pl_tup (pla_cons pl_str (pla_cons pl_bl pla_nil))) (pla_cons (pl_tup (pla_cons pl_str (pla_cons pl_str pla_nil))) (pla_cons (pl_tup (pla_cons pl_str (pla_cons pl_non pla_nil))) (pla_cons (pl_tup (pla_cons pl_str (pla_cons pl_int (pla_cons pl_int pla_nil)))) (pla_cons (pl_tup (pla_cons pl_str (pla_cons pl_int pla_nil))) pla_nil))))))))))
      (pss_cons (ps_set (i := 0) scOE.nd rfl (Or.inl rfl) (pe_op op_cat (pv 0) (pl_lst (pla_cons (pl_tup (pla_cons pl_str (pla_cons pl_int (pla_cons pl_int pla_nil)))) (pla_cons (pl_tup (pla_cons pl_str (pla_cons pl_int (pla_cons pl_int pla_nil)))) (pla_cons (pl_tup (pla_cons pl_str (pla_cons pl_int (pla_cons pl_neg pla_nil)))) (pla_cons (pl_tup (pla_cons pl_str (pla_cons pl_int (pla_cons pl_bl pla_nil)))) (pla_cons (pl_tup (pla_cons pl_str (pla_cons pl_int (pla_cons pl_int (pla_cons pl_int pla_nil))))) (pla_cons (pl_tup (pla_cons pl_str (pla_cons (pl_tup (pla_cons pl_int (pla_cons pl_int pla_nil))) pla_nil))) (pla_cons (pl_tup (pla_cons pl_str (pla_cons pl_int (pla_cons pl_int pla_nil)))) pla_nil))))))))))
      (pss_cons (ps_set (i := 0) scOE.nd rfl (Or.inl rfl) (pe_op op_cat (pv 0) (pl_lst (pla_cons (pl_lst (pla_cons pl_str (pla_cons pl_int pla_nil))) (pla_cons (pl_lst (pla_cons pl_str (pla_cons pl_int (pla_cons pl_int pla_nil)))) (pla_cons (pl_tup (pla_cons pl_str pla_nil)) (pla_cons (pl_tup pla_nil) (pla_cons (pl_lst pla_nil) (pla_cons pl_non (pla_cons pl_int (pla_cons pl_int (pla_cons pl_bl (pla_cons pl_str (pla_cons (pl_d1 pl_int) (pla_cons (pl_tup (pla_cons pl_str (pla_cons pl_pow pla_nil))) (pla_cons (pl_tup (pla_cons pl_int (pla_cons pl_str pla_nil))) pla_nil))))))))))))))))
      (pss_one (ps_ret (pe_op op_cat (pv 0) (pl_lst (pla_cons (pl_tup (pla_cons pl_str (pla_cons pl_int pla_nil))) (pla_cons (pl_tup (pla_cons pl_str (pla_cons pl_int pla_nil))) (pla_cons (pl_tup (pla_cons (pl_tup (pla_cons pl_str (pla_cons pl_int pla_nil))) pla_nil)) (pla_cons (pl_tup (pla_cons pl_str (pla_cons (pl_lst (pla_cons pl_int pla_nil)) pla_nil))) (pla_cons (pl_tup (pla_cons pl_str (pla_cons pl_bl (pla_cons pl_int pla_nil)))) (pla_cons (pl_tup (pla_cons pl_str (pla_cons pl_neg (pla_cons pl_int pla_nil)))) (pla_cons (pl_tup (pla_cons pl_str (pla_cons pl_non (pla_cons pl_int pla_nil)))) (pla_cons (pl_tup (pla_cons (pl_lst pla_nil) (pla_cons pl_int pla_nil))) (pla_cons (pl_tup (pla_cons pl_d0 (pla_cons pl_int pla_nil))) (pla_cons (pl_tup (pla_cons (pl_lst (pla_cons pl_str pla_nil)) (pla_cons pl_int pla_nil))) pla_nil))))))))))))))))), ?_⟩
    have closed : ∀ {σ : St} {ts : List T}, clsT ts = true → Val σ (.lst ts) (.lst ts) := fun h => .lst (vls_self h)
    have cat : ∀ {H0 : Hp} {l q : Addr} {xs ys : List V} {ts us : List T} {Q : VK}, H0 l = some (.lst xs) → Lds H0 xs ts → H0 q = some (.lst ys) → Lds H0 ys us → ts.length + us.length ≤ 900 →
        (∀ p H1, Same H0 H1 → H0 p = none → H1 p = some (.lst (xs ++ ys)) → Lds H1 (xs ++ ys) (ts ++ us) → Q (.ref p) H1) → rCat (.ref l) (.ref q) H0 Q := by
      intro H0 l q xs ys ts us Q hl l1 hq l2 hn k
      have e1 := l1.length
      have e2 := l2.length
      exact ⟨l, q, xs, ys, rfl, rfl, hl, hq, Nat.le_of_lt (small1000 (by omega)), fun p hp => k p _ (same_upd hp) hp upd_same ((l1.same (same_upd hp)).append (l2.same (same_upd hp)))⟩
    have lst_inv : ∀ {H0 : Hp} {x : V} {ts : List T}, Laid H0 x (.lst ts) → ∃ l xs, x = .ref l ∧ H0 l = some (.lst xs) ∧ Lds H0 xs ts := fun h => by
      cases h with
      | lst h l => exact ⟨_, _, rfl, h, l⟩
    refine ⟨_, closed (ts := odd0) (by decide +kernel), fun x0 H0 s0 l0 => ?_⟩
    obtain ⟨a0, xs0, rfl, g0, d0⟩ := lst_inv l0
    have f0 := (nw_some g0).1
    have g0 := (nw_some g0).2
    have d0 := d0.same nw_old
    refine ⟨_, rfl, _, closed (ts := odd1) (by decide +kernel), fun x1 H1 s1 l1 => ?_⟩
    obtain ⟨a1, xs1, rfl, g1, d1⟩ := lst_inv (l1.same nw_old)
    refine cat (s1 _ _ g0) (d0.same s1) g1 d1 (by decide +kernel) fun b1 G1 z1 n1 h1 e1 => ?_
    refine ⟨_, rfl, _, closed (ts := odd2) (by decide +kernel), fun x2 H2 s2 l2 => ?_⟩
    obtain ⟨a2, xs2, rfl, g2, d2⟩ := lst_inv (l2.same nw_old)
    refine cat (s2 _ _ h1) (e1.same s2) g2 d2 (by decide +kernel) fun b2 G2 z2 n2 h2 e2 => ?_
    refine ⟨_, rfl, _, closed (ts := odd3) (by decide +kernel), fun x3 H3 s3 l3 => ?_⟩
    obtain ⟨a3, xs3, rfl, g3, d3⟩ := lst_inv (l3.same nw_old)
    refine cat (s3 _ _ h2) (e2.same s3) g3 d3 (by decide +kernel) fun b3 G3 z3 n3 h3 e3 => ?_
    have sa := s0.trans (s1.trans (z1.trans (s2.trans (z2.trans s3))))
    exact q b3 _ G3 (sa.trans z3) (sa.free n3) h3 e3
end

end L2.K02
set_option Elab.async false
set_option linter.all false
set_option maxRecDepth 100000
set_option maxHeartbeats 4000000
namespace L2.K02
open PySem PySem.Spec PyProof.Rows L2.EV
theorem pe_gref {X : Cx} {x : Str} {a : Addr} {pos : Pos} (hm : X.mg x = some (.ref a)) (hg : Gl X x := by rfl) (hd : (x == ("__debug__" : Str)) = false := by decide) : PE X (.Name x pos) (tC (.ref a)) := pe_glob hg hm (show RelV (.ref a) (.ref a) from rfl) hd
/-! ### how a call ends by an error -/
abbrev sTd : Stmt := top 40
abbrev pTd : List Str := ["_law_way", "_law_things"]
abbrev nTd : List Str := ["_law_way", "_law_things", "e"]
theorem scTd : FnScope nTd pTd (defScope sTd) := ⟨rfl, rfl, rfl, by decide +kernel, rfl, by decide +kernel, by decide +kernel⟩
/-- the answer: the word, the error's thing, no error of another class, one of the base's -/
def Res (H : Hp) (Q : VK) (z : Str) (v : V) : Prop := ∀ p H', Same H H' → H' p = some (.tup [.str z, v, .bl false, .bl true]) → Q (.ref p) H'
def Bad2 (K : PySem.W.Frag) (H : Hp) (Q : VK) (x y : V) : Prop := (EffF K H x false ∧ Res H Q "effect" x) ∨ (EffF K H x true ∧ EffF K H y false ∧ Res H Q "effect" y)
def Bad3 (K : PySem.W.Frag) (H : Hp) (Q : VK) (x y z : V) : Prop := (EffF K H x false ∧ Res H Q "effect" x) ∨ (EffF K H x true ∧ Cnt K H y false ∧ Res H Q "count" y) ∨ (EffF K H x true ∧ Cnt K H y true ∧ Cnt K H z false ∧ Res H Q "count" z)
def tiTd (K : PySem.W.Frag) (i : Int) : TE := tOp (rIxL K) (tVar 1) (tC (.int i))
def tbTd (K : PySem.W.Frag) (W : WX) : TS :=
  tSeq (tIfS (tTest (tOp rEq (tVar 0) (tC (.str "worth")))) (tRet (tTup (tCons (tC (.str "told")) (tCons (tCallS (spWA K) (WE W) (tCons (tiTd K 0) (tCons (tiTd K 1) (tCons (tiTd K 2) tNil)))) tNil)))) tNext)
    (tSeq (tIfS (tTest (tOp rEq (tVar 0) (tC (.str "judge")))) (tRet (tTup (tCons (tC (.str "told")) (tCons (tCallS (spAP K) (WE W) (tCons (tiTd K 0) (tCons (tiTd K 1) (tCons (tiTd K 2) tNil)))) tNil)))) tNext)
      (tRet (tTup (tCons (tC (.str "told")) (tCons (tIf (tTest (tOp rEq (tVar 0) (tC (.str "beats")))) (tCallS (spBe K) (WE W) (tCons (tiTd K 0) (tCons (tiTd K 1) tNil))) (tCallS (spPS K) (WE W) (tCons (tiTd K 0) (tCons (tiTd K 1) tNil)))) tNil)))))
def suT (K : PySem.W.Frag) (z : Str) (C D : Addr) : Suite := fun a cls d => tRet (tTup (tCons (tC (.str z)) (tCons (tXf a cls d C "value" (tVar 2)) (tCons (tCB (rIsS K a cls d) (tCons (tVar 2) (tCons (tTup (tCons (tC (.ref D)) (tCons (tC (.ref (aM K))) tNil))) tNil))) (tCons (tCB (rIsS K a cls d) (tCons (tVar 2) (tCons (tC (.ref (aP K))) tNil))) tNil)))))
def qsT (K : PySem.W.Frag) : List (Value × Suite) := [(.ref (aE K), suT K "effect" (aE K) (aC K)), (.ref (aC K), suT K "count" (aC K) (aE K))]
def spTd (K : PySem.W.Frag) : Sp := fun vs H Q _ => ∃ (z : Str) (l : Addr) (x y : V) (xs : List V), vs = [.str z, .ref l] ∧ H l = some (.lst (x :: y :: xs)) ∧ ((z = "worth" ∧ ∃ u r, xs = u :: r ∧ Bad3 K H Q x y u) ∨ (z = "judge" ∧ xs ≠ [] ∧ Bad2 K H Q x y) ∨ (z = "beats" ∧ Bad2 K H Q x y) ∨ (z = "parting" ∧ Bad2 K H Q x y))
section
variable {P : Program} {w : World} {K : PySem.W.Frag} {mg : Str → Option Value} {base : Heap} {f : Addr} {fd : FuncData}
theorem ok_td (F : FnP K "_law_told" sTd f fd) (T : Tx P w K mg base) (GWA : GotX P w K mg base 4 "worth_at" pW (spWA K)) (GAP : GotX P w K mg base 4 "are_parting_sides" pAP (spAP K)) (GBe : GotX P w K mg base 4 "beats" pEO (spBe K)) (GPS : GotX P w K mg base 4 "parting_sides" pEO (spPS K))
    (mIs : mg "isinstance" = none) : FnOk P w K mg base CX0 5 f fd pTd (spTd K) := by
  obtain ⟨_, _, EE, _⟩ := T.e.ex
  obtain ⟨_, _, EC, _⟩ := T.c.ex
  refine F.ok scTd (fun vs H Q E h => ?_) (fun cdv A outer s H vs Q E hr h => ?_)
  · obtain ⟨z, l, x, y, xs, rfl, _⟩ := h
    rfl
  · obtain ⟨z, l, x, y, xs, rfl, hl, h⟩ := h
    refine ⟨_, pss_one (ps_try_named (i := 2) (tb := tbTd K) (qs := qsT K) (Wout := fun _ _ _ _ => False) rfl rfl scTd.nd rfl rfl takes_none5 (fun W pn xe tk _ =>
        pss_cons (ps_if (pt_cmpR op_eq (pv 0) pe_str (nomark _)) (pss_one (ps_ret (pe_tup (pa_cons pe_str (pa_cons (pe_gotX GWA tk hr (pa_cons (pe_ix ix_list (pv 1) pe_int (fun _ _ => rfl)) (pa_cons (pe_ix ix_list (pv 1) pe_int (fun _ _ => rfl)) (pa_cons (pe_ix ix_list (pv 1) pe_int (fun _ _ => rfl)) pa_nil)))) pa_nil))))) pss_nil)
        (pss_cons (ps_if (pt_cmpR op_eq (pv 0) pe_str (nomark _)) (pss_one (ps_ret (pe_tup (pa_cons pe_str (pa_cons (pe_gotX GAP tk hr (pa_cons (pe_ix ix_list (pv 1) pe_int (fun _ _ => rfl)) (pa_cons (pe_ix ix_list (pv 1) pe_int (fun _ _ => rfl)) (pa_cons (pe_ix ix_list (pv 1) pe_int (fun _ _ => rfl)) pa_nil)))) pa_nil))))) pss_nil)
        (pss_one (ps_ret (pe_tup (pa_cons pe_str (pa_cons (pe_ifExp (pt_cmpR op_eq (pv 0) pe_str (nomark _)) (pe_gotX GBe tk hr (pa_cons (pe_ix ix_list (pv 1) pe_int (fun _ _ => rfl)) (pa_cons (pe_ix ix_list (pv 1) pe_int (fun _ _ => rfl)) pa_nil)))
          (pe_gotX GPS tk hr (pa_cons (pe_ix ix_list (pv 1) pe_int (fun _ _ => rfl)) (pa_cons (pe_ix ix_list (pv 1) pe_int (fun _ _ => rfl)) pa_nil)))) pa_nil)))))))
      (.cons ⟨rfl, by decide, Or.inl T.e.mgx⟩ (fun a oe cls d pn hz hf => pss_one (ps_ret (pe_tup (pa_cons pe_str (pa_cons (pe_xf EE.xf EE.noV hz hf (pv 2)) (pa_cons (pe_callB (call_isS hz hf) (by rfl) mIs (by decide +kernel) (pa_cons (pv 2) (pa_cons (pe_tup (pa_cons (pe_gref T.c.mgx) (pa_cons (pe_gref T.mM) pa_nil))) pa_nil)))
          (pa_cons (pe_callB (call_isS hz hf) (by rfl) mIs (by decide +kernel) (pa_cons (pv 2) (pa_cons (pe_gref T.mP) pa_nil))) pa_nil)))))))
      (.cons ⟨rfl, by decide, Or.inl T.c.mgx⟩ (fun a oe cls d pn hz hf => pss_one (ps_ret (pe_tup (pa_cons pe_str (pa_cons (pe_xf EC.xf EC.noV hz hf (pv 2)) (pa_cons (pe_callB (call_isS hz hf) (by rfl) mIs (by decide +kernel) (pa_cons (pv 2) (pa_cons (pe_tup (pa_cons (pe_gref T.e.mgx) (pa_cons (pe_gref T.mM) pa_nil))) pa_nil)))
          (pa_cons (pe_callB (call_isS hz hf) (by rfl) mIs (by decide +kernel) (pa_cons (pv 2) (pa_cons (pe_gref T.mP) pa_nil))) pa_nil))))))) .nil))), ?_⟩
    have lk : ∀ v : V, List.lookup ("value" : Str) [(("value" : Str), v)] = some v := fun v => by simp [List.lookup]
    -- what a suite reads
    have suE : ∀ (v : V) (H1 : Hp), Same H H1 → Res H Q "effect" v → Out H1 (WE (wNmd K 2 (fun _ _ _ _ => False) { nx := fun _ H' => Q .non H', rt := Q } (qsT K)) [some (.str z), some (.ref l), none]) (aE K) v := by
      intro v H1 s1 res d H2 s2 hd
      refine ⟨true, T.xEE, ?_⟩
      rw [if_pos rfl]
      intro a ha
      refine ⟨_, rfl, rfl, rfl, d, _, v, rfl, hd, lk v, _, rfl, (by show 2 ≤ sizeLine; decide), fun tp htp => ?_⟩
      have s3 := same_upd (o := .tup [.ref (aC K), .ref (aM K)]) htp
      refine ⟨aE K, d, _, .ref tp, false, rfl, rfl, rfl, s3 _ _ hd, T.asE, .inr ⟨tp, _, _, rfl, upd_same, .cons (.own _) (.cons (.own _) .nil), T.kE⟩, ?_⟩
      refine ⟨_, rfl, aE K, d, _, .ref (aP K), true, rfl, rfl, rfl, s3 _ _ hd, T.asE, .inl ⟨_, .own _, T.pE⟩, (by show 4 ≤ sizeLine; decide), fun p hp => ?_⟩
      exact res p _ (s1.trans (s2.trans (s3.trans (same_upd hp)))) upd_same
    have suC : ∀ (v : V) (H1 : Hp), Same H H1 → Res H Q "count" v → Out H1 (WE (wNmd K 2 (fun _ _ _ _ => False) { nx := fun _ H' => Q .non H', rt := Q } (qsT K)) [some (.str z), some (.ref l), none]) (aC K) v := by
      intro v H1 s1 res d H2 s2 hd
      refine ⟨false, T.xCE, ?_⟩
      rw [if_neg Bool.false_ne_true]
      refine ⟨true, T.xCC, ?_⟩
      rw [if_pos rfl]
      intro a ha
      refine ⟨_, rfl, rfl, rfl, d, _, v, rfl, hd, lk v, _, rfl, (by show 2 ≤ sizeLine; decide), fun tp htp => ?_⟩
      have s3 := same_upd (o := .tup [.ref (aE K), .ref (aM K)]) htp
      refine ⟨aC K, d, _, .ref tp, false, rfl, rfl, rfl, s3 _ _ hd, T.asC, .inr ⟨tp, _, _, rfl, upd_same, .cons (.own _) (.cons (.own _) .nil), T.kC⟩, ?_⟩
      refine ⟨_, rfl, aC K, d, _, .ref (aP K), true, rfl, rfl, rfl, s3 _ _ hd, T.asC, .inl ⟨_, .own _, T.pC⟩, (by show 4 ≤ sizeLine; decide), fun p hp => ?_⟩
      exact res p _ (s1.trans (s2.trans (s3.trans (same_upd hp)))) upd_same
    have sr : Same H H := fun _ _ e => e
    have S : SqL K H l (x :: y :: xs) := SqL.of hl
    have a0 : atI (x :: y :: xs) 0 = some x := atI_nat (j := 0) rfl
    have a1 : atI (x :: y :: xs) 1 = some y := atI_nat (j := 1) rfl
    have ne : ∀ {a b : Str}, a ≠ b → decide (V.str a = V.str b) = false := fun h => decide_eq_false fun z => h (by injection z)
    rcases h with ⟨rfl, u, r, rfl, h⟩ | ⟨rfl, hne, h⟩ | ⟨rfl, h⟩ | ⟨rfl, h⟩
    · have a2 : atI (x :: y :: u :: r) 2 = some u := atI_nat (j := 2) rfl
      refine ⟨_, rfl, rfl, _, rfl, iteT ?_⟩
      refine ⟨_, rfl, l, _, _, _, rfl, rfl, S, a0, _, rfl, l, _, _, _, rfl, rfl, S, a1, _, rfl, l, _, _, _, rfl, rfl, S, a2, ?_⟩
      refine ⟨x, y, u, rfl, ?_⟩
      rcases h with ⟨h, q⟩ | ⟨h, h2, q⟩ | ⟨h, h2, h3, q⟩
      · exact .inl ⟨h, suE _ _ sr q⟩
      · exact .inr (.inl ⟨h, h2, suC _ _ sr q⟩)
      · exact .inr (.inr (.inl ⟨h, h2, h3, suC _ _ sr q⟩))
    · cases xs with
      | nil => exact absurd rfl hne
      | cons u r =>
        have a2 : atI (x :: y :: u :: r) 2 = some u := atI_nat (j := 2) rfl
        refine ⟨_, rfl, rfl, _, rfl, iteF ?_⟩
        refine ⟨_, rfl, rfl, _, rfl, iteT ?_⟩
        refine ⟨_, rfl, l, _, _, _, rfl, rfl, S, a0, _, rfl, l, _, _, _, rfl, rfl, S, a1, _, rfl, l, _, _, _, rfl, rfl, S, a2, ?_⟩
        refine ⟨x, y, u, rfl, ?_⟩
        rcases h with ⟨h, q⟩ | ⟨h, h2, q⟩
        · exact .inl ⟨h, suE _ _ sr q⟩
        · exact .inr (.inl ⟨h, h2, suE _ _ sr q⟩)
    · refine ⟨_, rfl, rfl, _, rfl, iteF ?_⟩
      refine ⟨_, rfl, rfl, _, rfl, iteF ?_⟩
      refine ⟨_, rfl, rfl, _, rfl, iteT ?_⟩
      refine ⟨_, rfl, l, _, _, _, rfl, rfl, S, a0, _, rfl, l, _, _, _, rfl, rfl, S, a1, x, y, rfl, ?_⟩
      rcases h with ⟨h, q⟩ | ⟨h, h2, q⟩
      · exact .inl ⟨h, suE _ _ sr q⟩
      · exact .inr (.inl ⟨h, h2, suE _ _ sr q⟩)
    · refine ⟨_, rfl, rfl, _, rfl, iteF ?_⟩
      refine ⟨_, rfl, rfl, _, rfl, iteF ?_⟩
      refine ⟨_, rfl, rfl, _, rfl, iteF ?_⟩
      refine ⟨_, rfl, l, _, _, _, rfl, rfl, S, a0, _, rfl, l, _, _, _, rfl, rfl, S, a1, x, y, rfl, ?_⟩
      rcases h with ⟨h, q⟩ | ⟨h, h2, q⟩
      · exact .inl ⟨h, suE _ _ sr q⟩
      · exact .inr (.inl ⟨h, h2, suE _ _ sr q⟩)
end
end L2.K02
set_option Elab.async false
set_option linter.all false
set_option maxRecDepth 100000
set_option maxHeartbeats 4000000
namespace L2.K02
open PySem PySem.Spec PyProof.Rows L2.EV
abbrev sVy : Stmt := top 41
abbrev pVy : List Str := ["_law_told_here", "_law_word", "_law_thing"]
abbrev nVy : List Str := ["_law_told_here", "_law_word", "_law_thing", "_law_same"]
theorem scVy : FnScope nVy pVy (defScope sVy) := ⟨rfl, rfl, rfl, by decide +kernel, rfl, by decide +kernel, by decide +kernel⟩
def veryT (t : T) : Bool := okT t && (decide (dpT t ≤ 4) && match t with
  | .lst ts => lfsT ts && decide (ts.length ≤ 800)
  | _ => true)
def spVy : Sp := fun vs H Q _ => ∃ (p : Addr) (z : Str) (v : V) (t : T), vs = [.ref p, .str z, v] ∧ H p = some (.tup [.str z, v, .bl false, .bl true]) ∧ Laid H v t ∧ veryT t = true ∧ ∀ H', Same H H' → Q (.bl true) H'
section
variable {P : Program} {w : World} {K : PySem.W.Frag} {mg : Str → Option Value} {base : Heap} {f : Addr} {fd : FuncData}
theorem ok_vy (F : FnP K "_law_very" sVy f fd) (GE : ∀ n, Got P w K mg base (n + 1) "_law_exact" pEx (spEx n)) (mIs : mg "isinstance" = none) (mLi : mg "list" = none) : FnOk P w K mg base CX0 8 f fd pVy spVy := by
  refine F.ok scVy (fun vs H Q E h => ?_) (fun cdv A outer s H vs Q E hr h => ?_)
  · obtain ⟨p, z, v, t, rfl, _⟩ := h
    rfl
  · obtain ⟨p, z, v, t, rfl, hp, hv, ok, q⟩ := h
    obtain ⟨o1, o2⟩ := Bool.and_eq_true_iff.mp ok
    obtain ⟨o2, o3⟩ := Bool.and_eq_true_iff.mp o2
    have o2 := of_decide_eq_true o2
    refine ⟨_, PSs.nox (pss_cons (ps_if (pt_not (pt_val (pe_got (GE 6) hr (pa_cons (pv 0) (pa_cons (pe_tup (pa_cons (pv 1) (pa_cons (pv 2) (pa_cons pe_bl (pa_cons pe_bl pa_nil))))) pa_nil))))) (pss_one (ps_ret pe_bl)) pss_nil)
      (pss_cons (ps_if (pt_val (pe_callB call_isi (by rfl) mIs (by decide +kernel) (pa_cons (pv 2) (pa_cons (pe_bltn (v := .ty "list") (u := .type "list") (by rfl) mLi (by decide +kernel) rfl) pa_nil))))
        (pss_cons (ps_expr (pe_bm PySem.F.plainAttrs_list PySem.F.slot_list_append PySem.F.type_list_append mt_append (pv 2) (pa_cons pe_str pa_nil)))
        (pss_cons (ps_set (i := 3) scVy.nd rfl (Or.inl rfl) (pe_got (GE 6) hr (pa_cons (pe_ix ix_tup (pv 0) pe_int (fun _ _ => rfl)) (pa_cons (pv 2) pa_nil))))
        (pss_cons (ps_expr (pe_bm0 PySem.F.plainAttrs_list PySem.F.slot_list_pop PySem.F.type_list_pop mt_pop (pv 2)))
        (pss_one (ps_ret (pv 3)))))) pss_nil)
      (pss_one (ps_ret pe_bl)))), ?_⟩
    refine ⟨_, rfl, _, rfl, _, rfl, (by show 4 ≤ sizeLine; decide), fun r hr0 => ?_⟩
    have s1 := same_upd (o := .tup [.str z, v, .bl false, .bl true]) hr0
    have g1 : upd H r (.tup [.str z, v, .bl false, .bl true]) r = some (.tup [.str z, v, .bl false, .bl true]) := upd_same
    generalize upd H r (.tup [.str z, v, .bl false, .bl true]) = H1 at s1 g1
    have self : ∀ {H2 : Hp} {m : Nat}, Same H H2 → 4 ≤ m → Alk H2 m v v := fun s hm => (alk_self (hv.same s) o1).mono (by omega)
    refine ⟨_, _, rfl, .tup (s1 _ _ hp) g1 rfl (by show 4 ≤ 900; decide) (fun i x y hx hy => ?_), fun H2 s2 => ⟨true, rfl, iteF ?_⟩⟩
    · rw [hx] at hy
      cases hy
      match i, hx with
      | 0, hx => cases hx; exact .flat rfl
      | 1, hx => cases hx; exact self s1 (by decide)
      | 2, hx => cases hx; exact .flat rfl
      | 3, hx => cases hx; exact .flat rfl
    have s02 := s1.trans s2
    obtain ⟨n, e⟩ := ok_ty o1
    refine ⟨_, rfl, v, .ty "list", _, _, _, rfl, .ty _, ty_T (hv.same s02) e, kit_T e "list" (by simp), _, rfl, ?_⟩
    refine ite2 (fun hL => ?_) (fun hL => q H2 s02)
    -- a list: it is changed, and made as it was
    have eT : ∃ ts, t = .lst ts := by
      cases t with
      | lst ts => exact ⟨ts, rfl⟩
      | v x =>
        cases x <;> cases e <;> exact absurd hL (by decide +kernel)
      | tup ts =>
        cases e
        exact absurd hL (by decide +kernel)
      | dct ks ts =>
        cases e
        exact absurd hL (by decide +kernel)
      | sl i => cases e
      | op f a b => cases e
    obtain ⟨ts, rfl⟩ := eT
    cases hv with
    | @lst l xs _ hl ll =>
      obtain ⟨o3, o4⟩ := Bool.and_eq_true_iff.mp o3
      have fl := lfs_flat ll o3
      have ln : xs.length ≤ 800 := by
        have := of_decide_eq_true o4
        have := ll.length
        omega
      have npl : p ≠ l := fun z => by
        rw [z, hl] at hp
        cases hp
      refine ⟨_, rfl, .inl ⟨rfl, _, SqL.of (s02 _ _ hl)⟩, l, xs, _, rfl, rfl, s02 _ _ hl, small1000 (by omega), ?_⟩
      have gp : upd H2 l (.lst (xs ++ [.str "later"])) p = some (.tup [.str z, .ref l, .bl false, .bl true]) := (upd_ne npl).trans (s02 _ _ hp)
      have gl : upd H2 l (.lst (xs ++ [.str "later"])) l = some (.lst (xs ++ [.str "later"])) := upd_same
      have go : ∀ b o, b ≠ l → H b = some o → upd H2 l (.lst (xs ++ [.str "later"])) b = some o := fun b o n e => (upd_ne n).trans (s02 _ _ e)
      generalize upd H2 l (.lst (xs ++ [.str "later"])) = H3 at gp gl go
      refine ⟨_, rfl, p, _, _, .ref l, rfl, rfl, SqT.of gp, atI_nat (j := 1) rfl, _, rfl, .ref l, .ref l, rfl, .lst gl gl rfl (by rw [List.length_append]; show xs.length + 1 ≤ 900; omega) (fun i x y hx hy => ?_), fun H4 s4 => ?_⟩
      · rw [hx] at hy
        cases hy
        refine .flat ?_
        have hm := List.mem_of_getElem? hx
        rcases List.mem_append.mp hm with hm | hm
        · exact fl x hm
        · rw [List.mem_singleton.mp hm]
          rfl
      · refine ⟨_, rfl, .inl ⟨rfl, _, SqL.of (s4 _ _ gl)⟩, l, _, .str "later", rfl, rfl, s4 _ _ gl, ?_, ?_⟩
        · rw [List.length_append, List.length_singleton, Nat.add_sub_cancel, List.getElem?_append_right (Nat.le_refl _), Nat.sub_self]
          rfl
        · rw [List.dropLast_concat]
          refine ⟨_, rfl, q _ fun b o e => ?_⟩
          by_cases n : b = l
          · rw [n, upd_same]
            rw [n, hl] at e
            exact e
          · rw [upd_ne n]
            exact s4 _ _ (go b o n e)
end
end L2.K02
set_option Elab.async false
set_option linter.all false
set_option maxRecDepth 100000
set_option maxHeartbeats 4000000
namespace L2.EV
open PySem PySem.Spec PyProof.Rows
/-! ### calls by keywords alone, and of a def that may raise where it doesn't -/
theorem passF {P : Program} {w : World} {X : Cx} : Passes (L2.CX P w) X (fun _ _ _ => False) := fun _ _ _ _ _ _ _ ⟨_, _, _, _, _, _, _, _, _, _, _, _, h⟩ => h.elim
/-- the keywords' values in the parameters' order -/
structure KwB (K : PySem.W.Frag) (fd : FuncData) (ps ks : List Str) (g : {α : Type} → List α → List α) : Prop where
  to : ∀ (s : Shared) (ws : List Value), K.In s.heap → ws.length = ks.length → BindsTo s fd ⟨[], ks.zip ws⟩ (ps.zip (g ws))
  rel : ∀ {zs : List V} {ws : List Value}, Vals zs ws → zs.length = ks.length → Vals (g zs) (g ws)
theorem FunD.kw {K : PySem.W.Frag} {x qual : Str} {params : Arguments} {body : List Stmt} {scope : Scope} {kws : List (Str × V)} {f : Addr} {fd : FuncData} {ps ks : List Str} (F : FunD K x qual params body scope [] kws f fd) (g : {α : Type} → List α → List α)
    (h : ∀ (kV doc pm : Value) (an : Option Addr) (cdv ct : Value) (ws : List Value), ws.length = ks.length → bindArgs (PySem.W.fnOf x qual params body scope .none kV doc pm an cdv ct) ⟨[], ks.zip ws⟩ = pure (ps.zip (g ws)))
    (rel : ∀ {zs : List V} {ws : List Value}, Vals zs ws → zs.length = ks.length → Vals (g zs) (g ws)) : KwB K fd ps ks g := by
  obtain ⟨oc, od, dV, kV, doc, pm, an, cdv, ct, osl, rfl, lk, hcd, hD, hK⟩ := F.ex
  rcases hD with ⟨_, rfl⟩ | ⟨e, _⟩
  · exact ⟨fun s ws _ hl => .of_eq (h kV doc pm an cdv ct ws hl), rel⟩
  · exact absurd rfl e
structure GotK (P : Program) (w : World) (K : PySem.W.Frag) (mg : Str → Option Value) (base : Heap) (CX : CXT) (k : Nat) (x : Str) (ps ks : List Str) (g : {α : Type} → List α → List α) (sp : Sp) : Prop where
  ex : ∃ f fd, FnOk P w K mg base CX k f fd ps sp ∧ KwB K fd ps ks g ∧ PySem.W.keepIn K (.ref f) = true ∧ mg x = some (.ref f)
def tCallKw (sp : Sp) (n : Nat) (g : List V → List V) (E : XK) (tk : TA) : TE := fun σ H Q => tk σ H fun zs H1 => zs.length = n ∧ sp (g zs) H1 Q E
theorem pe_gotK {X : Cx} {CX : CXT} {k j : Nat} {x : Str} {ps ks : List Str} {g : {α : Type} → List α → List α} {sp : Sp} {E : XK} {p pos : Pos} {kws : List Keyword} {tk : TA} (G : GotK X.prog X.w X.K X.mg X.base CX k x ps ks g sp) (hr : Room j X.A) (hx : Passes CX X E) (hk : PK X kws tk) (hg : Gl X x := by rfl) (hj : k ≤ j := by decide)
    (hdb : (x == ("__debug__" : Str)) = false := by decide) (hall : (backToKw pos (keywordEach kws X.env)).all (·.1.isSome) = true := by rfl) (hks : (backToKw pos (keywordEach kws X.env)).filterMap (·.1) = ks := by rfl)
    (hpl : ((backTo pos (starEach [] X.env)).any (·.1) || (backToKw pos (keywordEach kws X.env)).any (·.1.isNone)) = false := by rfl) : PE X (.Call (.Name x p) [] kws pos) (tCallKw sp ks.length g E tk) := by
  obtain ⟨f, fd, F, b, kp, m⟩ := G.ex
  refine ⟨fun pins s σ H Q I h => ?_⟩
  refine wpAny_Call_Name_kw (ld_glob I hg m ?_ hdb)
  refine PySem.W.callWith_KW0 (h₀ := X.base) I.ok.mod.kin kp hall ?_ hpl
  refine thn (hk.run pos pins s σ H _ I h) fun ws s2 ⟨zs, H2, I2, rz, hz, q2⟩ => ⟨I2.kIn, ?_⟩
  rw [hks]
  refine wpAny_call (codeAny_mono (F.run X.A X.stack s2 H2 ⟨[], ks.zip ws⟩ (g ws) (g zs) Q E (hr.mono hj) I2.env0 (b.to s2 ws I2.kIn (rz.length.symm.trans hz)) (b.rel rz hz) q2) fun r s' hq => ?_)
  cases r with
  | error e => exact hx pins σ H2 s2 e s' I2 hq
  | ok fl =>
    cases fl with
    | ret u => exact I2.after hq
    | next => exact False.elim hq
    | brk => exact False.elim hq
    | cont => exact False.elim hq
end L2.EV
namespace L2.K02
open PySem PySem.Spec PyProof.Rows L2.EV
section
variable {X : Cx} {k j : Nat} {x : Str} {ps : List Str} {sp : Sp} {p pos : Pos} {e : Expr} {es : List Expr} {t : TA}
theorem pe_gotF (g : GotX X.prog X.w X.K X.mg X.base k x ps sp) (hr : Room j X.A) (ha : PA X (e :: es) t) (hg : Gl X x := by rfl) (hk : k ≤ j := by decide) (hdb : (x == ("__debug__" : Str)) = false := by decide)
    (he : starEach (e :: es) X.env = (false, eval e X.env) :: starEach es X.env := by rfl) (hpl : (backTo pos (starEach es X.env)).any (·.1) = false := by rfl) : PE X (.Call (.Name x p) (e :: es) [] pos) (tCall sp [] (fun _ _ _ => False) t) := by
  obtain ⟨f, fd, G, b, kp, m⟩ := g.ex
  exact pe_call G (hr.mono hk) hg m kp b .nil passF ha hdb he hpl
theorem pe_got0 (g : Got X.prog X.w X.K X.mg X.base k x [] sp) (hr : Room j X.A) (hg : Gl X x := by rfl) (hk : k ≤ j := by decide) (hdb : (x == ("__debug__" : Str)) = false := by decide) : PE X (.Call (.Name x p) [] [] pos) (tCall sp [] E0 tNil) := by
  obtain ⟨f, fd, G, b, kp, m⟩ := g.ex
  exact pe_call0 G (hr.mono hk) hg m kp b .nil pass0 hdb
end
def flip2 {α : Type} : List α → List α
  | [a, b] => [b, a]
  | l => l
def back3 {α : Type} : List α → List α
  | [a, b, c] => [c, b, a]
  | l => l
/-- behind, effect, ahead: effect, ahead, behind -/
def turn3 {α : Type} : List α → List α
  | [a, b, c] => [b, c, a]
  | l => l
theorem flip2_rel {zs : List V} {ws : List Value} (r : Vals zs ws) (h : zs.length = 2) : Vals (flip2 zs) (flip2 ws) := by
  match zs, h, r with
  | [a, b], _, .cons r1 (.cons r2 .nil) => exact .cons r2 (.cons r1 .nil)
theorem back3_rel {zs : List V} {ws : List Value} (r : Vals zs ws) (h : zs.length = 3) : Vals (back3 zs) (back3 ws) := by
  match zs, h, r with
  | [a, b, c], _, .cons r1 (.cons r2 (.cons r3 .nil)) => exact .cons r3 (.cons r2 (.cons r1 .nil))
theorem turn3_rel {zs : List V} {ws : List Value} (r : Vals zs ws) (h : zs.length = 3) : Vals (turn3 zs) (turn3 ws) := by
  match zs, h, r with
  | [a, b, c], _, .cons r1 (.cons r2 (.cons r3 .nil)) => exact .cons r2 (.cons r3 (.cons r1 .nil))
/-! ### numbers -/
theorem none_iff : efs.all (fun e => efs.all fun g => (ptd e g).isEmpty == (apart e g).isNone) = true := by decide +kernel
theorem apart_none {e g : Ef} (he : e ∈ efs) (hg : g ∈ efs) : (ptd e g).isEmpty = decide (apart e g = none) := by
  have h := eq_of_beq (List.all_eq_true.mp (List.all_eq_true.mp none_iff e he) g hg)
  rw [h]
  cases apart e g <;> rfl
theorem apart_some {e g : Ef} {a b : Int} (h : apart e g = some (a, b)) : parts e g (a, b) = true ∧ 0 ≤ a ∧ 0 ≤ b := by
  refine ⟨List.find?_some h, ?_⟩
  have m : (a, b) ∈ sides := List.mem_of_find?_eq_some h
  simp only [sides, List.mem_cons, Prod.mk.injEq, List.not_mem_nil, or_false] at m
  omega
theorem ptd_small {e g : Ef} {p : Int × Int} : ∀ n, p ∈ ptdTo e g n → (0 ≤ p.1 ∧ p.1 < n) ∧ 0 ≤ p.2 ∧ p.2 < 7
  | 0, h => by cases h
  | n + 1, h => by
    rcases List.mem_append.mp (show p ∈ ptdTo e g n ++ rowP e g n 7 from h) with h | h
    · have := ptd_small n h
      omega
    · unfold rowP at h
      obtain ⟨h, _⟩ := List.mem_filter.mp h
      obtain ⟨b, hb, rfl⟩ := List.mem_map.mp h
      have := List.mem_range.mp hb
      dsimp only
      omega
/-! ### data -/
theorem shaped_pairs (ps : List (Int × Int)) : SeqAt.shaped (.list (ps.map fun p => .tuple [.int p.1, .int p.2])) = true := by
  have h1 : PyData.canLayAll0 (ps.map fun p => .tuple [.int p.1, .int p.2]) = true := by
    induction ps with
    | nil => rfl
    | cons p ps ih => exact (Bool.and_eq_true_iff.mpr ⟨rfl, ih⟩ : (_ && _) = true)
  have h2 : PyData.depthAll (ps.map fun p => .tuple [.int p.1, .int p.2]) ≤ 1 := by
    induction ps with
    | nil => exact Nat.zero_le _
    | cons p ps ih =>
      have h1' : PyData.canLayAll0 (ps.map fun p => .tuple [.int p.1, .int p.2]) = true := (Bool.and_eq_true_iff.mp (h1 : (_ && _) = true)).2
      exact Nat.max_le.mpr ⟨Nat.le_refl 1, ih h1'⟩
  unfold SeqAt.shaped
  refine Bool.and_eq_true_iff.mpr ⟨h1, decide_eq_true ?_⟩
  show PyData.depthAll _ + 1 ≤ 64
  omega
theorem dp_pairs {K : PySem.W.Frag} {H : Hp} : ∀ {ps : List (Int × Int)} {xs : List V}, Lds H xs (ps.map pT) → DpAll K H xs (ps.map fun p => .tuple [.int p.1, .int p.2])
  | [], _, .nil => .nil
  | p :: ps, _, .cons (.tup h (.cons (.v _) (.cons (.v _) .nil))) l => .cons (.tup (SqT.of h) (.cons (.int _) (.cons (.int _) .nil))) (dp_pairs l)
theorem eqv_nil (ds : List PyData) : PyData.eqv (.list ds) (.list []) = ds.isEmpty := by cases ds <;> rfl
/-- any object as parting sides, as it lies -/
def jdT (e g : Ef) : T → Bool
  | .tup [.v (.int i), .v (.int j)] => decide (0 ≤ i) && (decide (0 ≤ j) && parts e g (i, j))
  | _ => false
theorem cnt_ty {K : PySem.W.Frag} {H : Hp} {x : V} {t : T} {n : String} (e : tyT t = some n) (h : Laid H x t) : Cnt K H x (cntT t) := by
  have ty := ty_T (K := K) h e
  have ki := kit_T (K := K) e "int" (by simp)
  cases h with
  | v x =>
    cases x with
    | int i => exact .int i
    | bl b => exact .bl b
    | non =>
      cases e
      exact .oth ty ki
    | str y =>
      cases e
      exact .oth ty ki
    | byt y => cases e
    | flt y => cases e
    | ref a => cases e
    | ty m => cases e
  | tup h l =>
    cases e
    exact .oth ty ki
  | lst h l =>
    cases e
    exact .oth ty ki
  | dct h l =>
    cases e
    exact .oth ty ki
theorem cnt_is {t : T} (h : cntT t = true) : ∃ i : Int, t = .v (.int i) ∧ 0 ≤ i := by
  unfold cntT at h
  split at h
  · exact ⟨_, rfl, of_decide_eq_true h⟩
  · cases h
theorem jdg_T {K : PySem.W.Frag} {H : Hp} {e g : Ef} {x : V} {t : T} (h : Laid H x t) (ty : (tyT t).isSome = true) (tys : ∀ a b, t = .tup [a, b] → (tyT a).isSome = true ∧ (tyT b).isSome = true) : Jdg K H e g x (jdT e g t) := by
  obtain ⟨n, en⟩ := Option.isSome_iff_exists.mp ty
  have ty' := ty_T (K := K) h en
  have ki := kit_T (K := K) en "tuple" (by simp)
  cases h with
  | v x => cases x <;> cases en <;> exact .no ty' ki
  | lst h l =>
    cases en
    exact .no ty' ki
  | dct h l =>
    cases en
    exact .no ty' ki
  | @tup a xs ts h l =>
    by_cases h2 : ts.length = 2
    · match ts, h2, l, tys with
      | [a, b], _, .cons l1 (.cons l2 .nil), tys =>
        obtain ⟨t1, t2⟩ := tys a b rfl
        obtain ⟨n1, e1⟩ := Option.isSome_iff_exists.mp t1
        obtain ⟨n2, e2⟩ := Option.isSome_iff_exists.mp t2
        have c1 := cnt_ty (K := K) e1 l1
        have c2 := cnt_ty (K := K) e2 l2
        cases h1 : cntT a with
        | false =>
          have : jdT e g (.tup [a, b]) = false := by
            unfold jdT
            split
            · next i j q =>
              cases q
              have h1' : decide (0 ≤ i) = false := h1
              rw [h1']
              rfl
            · rfl
          rw [this]
          rw [h1] at c1
          exact .c0 h c1
        | true =>
          rw [h1] at c1
          cases h2 : cntT b with
          | false =>
            have : jdT e g (.tup [a, b]) = false := by
              unfold jdT
              split
              · next i j q =>
                cases q
                have h2' : decide (0 ≤ j) = false := h2
                rw [h2']
                cases decide (0 ≤ i) <;> rfl
              · rfl
            rw [this]
            rw [h2] at c2
            exact .c1 h c1 c2
          | true =>
            obtain ⟨i, rfl, i0⟩ := cnt_is h1
            obtain ⟨j, rfl, j0⟩ := cnt_is h2
            cases l1
            cases l2
            have : jdT e g (.tup [.v (.int i), .v (.int j)]) = parts e g (i, j) := by
              show (decide (0 ≤ i) && (decide (0 ≤ j) && parts e g (i, j))) = _
              rw [decide_eq_true i0, decide_eq_true j0]
              rfl
            rw [this]
            exact .some h i0 j0
    · have : jdT e g (.tup ts) = false := by
        unfold jdT
        split
        · next q =>
          cases q
          exact absurd rfl h2
        · rfl
      rw [this]
      exact .len h (by rw [← l.length]; exact h2)
end L2.K02
namespace L2.K02
open PySem PySem.Spec PyProof.Rows L2.EV
def forBody : Stmt → List Stmt
  | .For (body := b) .. => b
  | _ => []
/-- no sides that part -/
structure NoJ (e g : Ef) (t : T) : Prop where
  no : jdT e g t = false
  ty : (tyT t).isSome = true
  tys : ∀ a b, t = .tup [a, b] → (tyT a).isSome = true ∧ (tyT b).isSome = true
theorem NoJ.pair {e g : Ef} {a b : T} (h1 : (tyT a).isSome = true) (h2 : (tyT b).isSome = true) (h : cntT a = false ∨ cntT b = false) : NoJ e g (.tup [a, b]) := by
  refine ⟨?_, rfl, fun c d q => ?_⟩
  · unfold jdT
    split
    · next i j q =>
      cases q
      rcases h with h | h
      · have h' : decide (0 ≤ i) = false := h
        rw [h']
        rfl
      · have h' : decide (0 ≤ j) = false := h
        rw [h']
        cases decide (0 ≤ i) <;> rfl
    · rfl
  · cases q
    exact ⟨h1, h2⟩
theorem NoJ.other {e g : Ef} {t : T} (h : (tyT t).isSome = true) (n : ∀ a b, t ≠ .tup [a, b]) : NoJ e g t := by
  refine ⟨?_, h, fun c d q => absurd q (n c d)⟩
  unfold jdT
  split
  · next i j => exact absurd rfl (n _ _)
  · rfl
theorem NoJ.all {K : PySem.W.Frag} {e g : Ef} {H : Hp} {xs : List V} {ts : List T} (l : Lds H xs ts) (h : ∀ t ∈ ts, NoJ e g t) {i : Nat} {x : V} (hx : xs[i]? = some x) : Jdg K H e g x false := by
  obtain ⟨t, ht, lt⟩ := l.at hx
  have n := h t (List.mem_of_getElem? ht)
  have := jdg_T (K := K) (e := e) (g := g) lt n.ty n.tys
  rw [n.no] at this
  exact this
theorem NoJ.nil {e g : Ef} : ∀ t ∈ ([] : List T), NoJ e g t := fun t h => by cases h
theorem NoJ.cons {e g : Ef} {t : T} {ts : List T} (h : NoJ e g t) (r : ∀ u ∈ ts, NoJ e g u) : ∀ u ∈ t :: ts, NoJ e g u := fun u hu => by
  rcases List.mem_cons.mp hu with rfl | hu
  · exact h
  · exact r u hu
theorem NoJ.app {e g : Ef} {ts us : List T} (h : ∀ u ∈ ts, NoJ e g u) (r : ∀ u ∈ us, NoJ e g u) : ∀ u ∈ ts ++ us, NoJ e g u := fun u hu => by
  rcases List.mem_append.mp hu with hu | hu
  · exact h u hu
  · exact r u hu
theorem pair_inv {H : Hp} {x : V} {a b : V} (h : Laid H x (.tup [.v a, .v b])) : ∃ q, x = .ref q ∧ H q = some (.tup [a, b]) := by
  cases h with
  | tup h l =>
    match l with
    | .cons (.v _) (.cons (.v _) .nil) => exact ⟨_, rfl, h⟩
theorem lst_inv {H : Hp} {x : V} {ts : List T} (h : Laid H x (.lst ts)) : ∃ l xs, x = .ref l ∧ H l = some (.lst xs) ∧ Lds H xs ts := by
  cases h with
  | lst h l => exact ⟨_, _, rfl, h, l⟩
end L2.K02
set_option Elab.async false
set_option linter.all false
set_option maxRecDepth 100000
set_option maxHeartbeats 4000000
namespace L2.K02
open PySem PySem.Spec PyProof.Rows L2.EV
/-! ### a pair of effects -/
structure Gs (P : Program) (w : World) (K : PySem.W.Frag) (mg : Str → Option Value) (base : Heap) : Prop where
  dr : Got P w K mg base 2 "_law_draw" ["_law_purse_here", "_law_many"] spDraw
  one : Got P w K mg base 3 "_law_one_of" ["_law_purse_here", "_law_some"] spOne
  ae : Got P w K mg base 1 "_law_all_effects" [] spAE
  sm : Got P w K mg base 1 "_law_sum" pSm spSm
  pd : Got P w K mg base 2 "_law_parted" pPd spPd
  lc : Got P w K mg base 1 "_law_is_count" ["_law_value"] (spCnt K)
  ex : ∀ n, Got P w K mg base (n + 1) "_law_exact" pEx (spEx n)
  be : GotX P w K mg base 4 "beats" pEO (spBe K)
  ps : GotX P w K mg base 4 "parting_sides" pEO (spPS K)
  wa : GotX P w K mg base 4 "worth_at" pW (spWA K)
  ap : GotX P w K mg base 4 "are_parting_sides" pAP (spAP K)
  beK : GotK P w K mg base (L2.CX P w) 4 "beats" pEO ["other", "effect"] flip2 (spBe K)
  psK : GotK P w K mg base (L2.CX P w) 4 "parting_sides" pEO ["other", "effect"] flip2 (spPS K)
  waK : GotK P w K mg base (L2.CX P w) 4 "worth_at" pW ["behind", "effect", "ahead"] turn3 (spWA K)
  apK : GotK P w K mg base (L2.CX P w) 4 "are_parting_sides" pAP ["value", "other", "effect"] back3 (spAP K)
  is : mg "isinstance" = none
  tup : mg "tuple" = none
  len : mg "len" = none
  min : mg "min" = none
  str : mg "str" = none
abbrev sPR : Stmt := top 42
abbrev nPR : List Str := ["_law_purse_here", "_law_one", "_law_other", "_law_parted_here", "_law_told_here", "_law_great", "_law_sides", "_law_ahead", "_law_behind", "_law_due", "_law_parts", "_law_odd", "_law_value", "_law_at"]
theorem scPR : FnScope nPR ["_law_purse_here"] (defScope sPR) := ⟨rfl, rfl, rfl, by decide +kernel, rfl, by decide +kernel, by decide +kernel⟩
def big : Int := 10 ^ 29
/-- slots of the law's def -/
def slP (p t u : Addr) (v3 v4 v5 v6 v7 v8 v9 va vb vc : Option V) : St := [some (.ref p), some (.ref t), some (.ref u), v3, v4, v5, v6, v7, v8, v9, va, vb, vc, none]
section
variable {P : Program} {w : World} {K : PySem.W.Frag} {mg : Str → Option Value} {base : Heap} {f : Addr} {fd : FuncData}
/-- the body of the loop over the sides -/
theorem pr_body (G : Gs P w K mg base) {cdv : Value} {A : Around} {outer : List Env} {s : Shared} {H0 : Hp} {E : XK} (hr : Room 4 (A.deeper (envOfC "_law_pair_right" (defScope sPR) s.heap.objs.size f cdv))) :
    ∃ tb, PSs (cxOf CX0 P w K mg base nPR "_law_pair_right" (defScope sPR) f cdv A outer s H0 E).nox (forBody ((defBody sPR).getD 8 (.Pass ⟨0, 0, 0, 0⟩))) tb ∧ ∀ (D : Ends) (p t u : Addr) (e g : Ef) (i j : Int) (v3 v4 v5 v6 v9 va vb vc : Option V) (H : Hp),
      EfAt H t e → EfAt H u g → e.ok → g.ok → (0 ≤ i ∧ i < big) → (0 ≤ j ∧ j < big) → (∀ w9 wa wb wc H', Same H H' → D.nx (slP p t u v3 v4 v5 v6 (some (.int i)) (some (.int j)) w9 wa wb wc) H') →
      tb D (slP p t u v3 v4 v5 v6 (some (.int i)) (some (.int j)) v9 va vb vc) H := by
  have hu := hr.units
  have hr1 := hr.mono (show 1 ≤ 4 by decide)
  refine ⟨_, (pss_cons (ps_set (i := 9) scPR.nd rfl (Or.inl rfl) (pe_got G.sm hr1 (pa_cons (pv 1) (pa_cons (pv 7) (pa_cons (pv 8) pa_nil)))))
        (pss_cons (ps_if (PW.pt (pw_or (pt_not (pt_val (pe_got (G.ex 2) hr (pa_cons (pe_gotF G.wa hr (pa_cons (pv 1) (pa_cons (pv 7) (pa_cons (pv 8) pa_nil)))) (pa_cons (pv 9) pa_nil)))))
            (pw_or1 (pt_cmpR op_ne (pe_gotK G.waK hr passF (pk_cons (pv 8) (pk_cons (pv 1) (pk_cons (pv 7) pk_nil)))) (pv 9) (nomark _))))) (pss_one (ps_ret pe_bl)) pss_nil)
        (pss_cons (ps_set (i := 10) scPR.nd rfl (Or.inl rfl) (pe_cmpR op_gt (pv 9) (pe_got G.sm hr1 (pa_cons (pv 2) (pa_cons (pv 7) (pa_cons (pv 8) pa_nil)))) (nomark _)))
        (pss_cons (ps_if (pt_not (pt_val (pe_got (G.ex 2) hr (pa_cons (pe_gotF G.ap hr (pa_cons (pv 1) (pa_cons (pv 2) (pa_cons (pl_tup (pla_cons (pl_v 7) (pla_cons (pl_v 8) pla_nil))) pa_nil)))) (pa_cons (pv 10) pa_nil))))) (pss_one (ps_ret pe_bl)) pss_nil)
        (pss_cons (ps_set (i := 11) scPR.nd rfl (Or.inl rfl) (pl_lst (pla_cons (pl_tup (pla_cons (pl_sub pl_neg (pl_v 7)) (pla_cons (pl_v 8) pla_nil))) (pla_cons (pl_tup (pla_cons pl_neg (pla_cons (pl_v 8) pla_nil))) (pla_cons (pl_tup (pla_cons pl_neg (pla_cons (pl_add (pl_v 8) pl_int) pla_nil))) (pla_cons (pl_tup (pla_cons (pl_add (pl_v 7) pl_int) (pla_cons pl_neg pla_nil))) (pla_cons (pl_tup (pla_cons (pl_v 7) (pla_cons pl_bl pla_nil))) (pla_cons (pl_tup (pla_cons (pl_v 7) (pla_cons pl_bl pla_nil))) (pla_cons (pl_tup (pla_cons pl_bl (pla_cons (pl_v 8) pla_nil))) (pla_cons (pl_tup (pla_cons pl_non (pla_cons (pl_v 8) pla_nil))) pla_nil))))))))))
        (pss_one (ps_for PassesOwn.never rfl (pi_list (pe_op op_cat (pv 11) (pe_lst (pa_cons (pl_lst (pla_cons (pl_v 7) (pla_cons (pl_v 8) pla_nil))) (pa_cons (pl_tup (pla_cons (pl_v 7) pla_nil)) (pa_cons (pl_tup (pla_cons (pl_v 7) (pla_cons (pl_v 8) (pla_cons pl_int pla_nil)))) (pa_cons (pl_tup (pla_cons (pl_v 7) (pla_cons (pl_sub pl_neg (pl_v 8)) pla_nil))) (pa_cons (pe_tup (pa_cons (pe_callTy call_str_int (by rfl) G.str (by decide +kernel) (pa_cons (pv 7) pa_nil)) (pa_cons (pv 8) pa_nil))) (pa_cons (pl_tup (pla_cons pl_bl (pla_cons (pl_v 8) pla_nil))) (pa_cons (pl_tup (pla_cons (pl_v 7) (pla_cons pl_non pla_nil))) pa_nil)))))))))) (pg_name (i := 12) scPR.nd rfl (Or.inl rfl))
          (pss_one (ps_if (pt_cmpR op_isnot_bl (pe_gotF G.ap hr (pa_cons (pv 1) (pa_cons (pv 2) (pa_cons (pv 12) pa_nil)))) pe_bl (nomark _)) (pss_one (ps_ret pe_bl)) pss_nil))))))))), ?_⟩
  intro D p t u e g i j v3 v4 v5 v6 v9 va vb vc H he hg oe og hi hj q
  refine ⟨_, rfl, _, rfl, _, rfl, t, e, i, j, rfl, he, fun H1 s1 => ?_⟩
  refine ⟨_, rfl, _, rfl, _, rfl, _, _, _, rfl, .inr (.inr (.inr ⟨t, e, i, j, rfl, he.same s1, oe, rfl, rfl, hi.1, hj.1, fun H2 s2 => ?_⟩))⟩
  refine ⟨_, rfl, _, _, rfl, .flat rfl, fun H3 s3 => ⟨true, rfl, iteF ?_⟩⟩
  have s03 := s1.trans (s2.trans s3)
  refine ⟨_, rfl, _, rfl, _, rfl, rfl, _, _, _, rfl, .inr (.inr (.inr ⟨t, e, i, j, rfl, he.same s03, oe, rfl, rfl, hi.1, hj.1, fun H4 s4 => ?_⟩))⟩
  have s04 := s03.trans s4
  refine ⟨_, rfl, rfl, _, rfl, ?_⟩
  rw [decide_eq_true rfl]
  refine iteF ?_
  refine ⟨_, rfl, _, rfl, _, rfl, _, rfl, u, g, i, j, rfl, hg.same s04, fun H5 s5 => ⟨_, _, rfl, rfl, ?_⟩⟩
  have s05 := s04.trans s5
  refine ⟨_, rfl, _, rfl, _, .tup (.cons (.sl rfl) (.cons (.sl rfl) .nil)), fun x6 H6 s6 l6 => ?_⟩
  have s06 := s05.trans s6
  obtain ⟨q6, rfl, g6⟩ := pair_inv (l6.same nw_old)
  refine ⟨_, _, _, rfl, .inr (.inr ⟨t, u, e, g, rfl, rfl, he.same s06, hg.same s06, oe, og, _, .some g6 hi.1 hj.1, fun H7 s7 => ?_⟩)⟩
  have s07 := s06.trans s7
  refine ⟨_, rfl, _, _, rfl, .flat rfl, fun H8 s8 => ⟨true, rfl, iteF ?_⟩⟩
  have s08 := s07.trans s8
  refine ⟨_, .lst (.cons (.tup (.cons (.op (.v _) (.sl rfl)) (.cons (.sl rfl) .nil))) (.cons (.tup (.cons (.v _) (.cons (.sl rfl) .nil))) (.cons (.tup (.cons (.v _) (.cons (.op (.sl rfl) (.v _)) .nil))) (.cons (.tup (.cons (.op (.sl rfl) (.v _)) (.cons (.v _) .nil)))
    (.cons (.tup (.cons (.sl rfl) (.cons (.v _) .nil))) (.cons (.tup (.cons (.sl rfl) (.cons (.v _) .nil))) (.cons (.tup (.cons (.v _) (.cons (.sl rfl) .nil))) (.cons (.tup (.cons (.v _) (.cons (.sl rfl) .nil))) .nil)))))))), fun x9 H9 s9 l9 => ?_⟩
  have s09 := s08.trans s9
  obtain ⟨a9, xs, rfl, g9, d9⟩ := lst_inv (l9.same nw_old)
  refine ⟨_, rfl, ?_⟩
  refine ⟨_, .lst (.cons (.sl rfl) (.cons (.sl rfl) .nil)), fun y1 G1 z1 m1 => ?_⟩
  refine ⟨_, .tup (.cons (.sl rfl) .nil), fun y2 G2 z2 m2 => ?_⟩
  refine ⟨_, .tup (.cons (.sl rfl) (.cons (.sl rfl) (.cons (.v _) .nil))), fun y3 G3 z3 m3 => ?_⟩
  refine ⟨_, .tup (.cons (.sl rfl) (.cons (.op (.v _) (.sl rfl)) .nil)), fun y4 G4 z4 m4 => ?_⟩
  refine ⟨_, rfl, i, rfl, ?_, _, rfl, (by show 2 ≤ sizeLine; decide), fun y5 hy5 => ?_⟩
  · have h1 : i.natAbs < 2 ^ 1920 := by
      have : (10 : Int) ^ 29 < 2 ^ 1920 := by decide +kernel
      unfold big at hi
      omega
    by_cases h0 : i.natAbs = 0
    · rw [h0]
      decide
    · exact (Nat.log2_lt h0).mpr h1
  have z5 := same_upd (o := .tup [.str (toString i), .int j]) hy5
  have m5 : Laid (upd G4 y5 (.tup [.str (toString i), .int j])) (.ref y5) (.tup [.v (.str (toString i)), .v (.int j)]) := .tup upd_same (.cons (.v _) (.cons (.v _) .nil))
  generalize upd G4 y5 (.tup [.str (toString i), .int j]) = G5 at z5 m5
  refine ⟨_, .tup (.cons (.v _) (.cons (.sl rfl) .nil)), fun y6 G6 z6 m6 => ?_⟩
  refine ⟨_, .tup (.cons (.sl rfl) (.cons (.v _) .nil)), fun y7 G7 z7 m7 => ?_⟩
  refine ⟨(by show 7 ≤ sizeLine; decide), fun l7 hl7 => ?_⟩
  have z8 := same_upd (o := .lst [y1, y2, y3, y4, .ref y5, y6, y7]) hl7
  have g8 : upd G7 l7 (.lst [y1, y2, y3, y4, .ref y5, y6, y7]) l7 = some (.lst [y1, y2, y3, y4, .ref y5, y6, y7]) := upd_same
  generalize upd G7 l7 (.lst [y1, y2, y3, y4, .ref y5, y6, y7]) = G8 at z8 g8
  have z78 := z8
  have z68 := z7.trans z78
  have z58 := z6.trans z68
  have z48 := z5.trans z58
  have z38 := z4.trans z48
  have z28 := z3.trans z38
  have z18 := z2.trans z28
  have z08 := z1.trans z18
  have l8 := d9.length
  have ll := Lds.append (d9.same z08) (.cons ((m1.same nw_old).same z18) (.cons ((m2.same nw_old).same z28) (.cons ((m3.same nw_old).same z38) (.cons ((m4.same nw_old).same z48) (.cons (m5.same z58) (.cons ((m6.same nw_old).same z68) (.cons ((m7.same nw_old).same z78) .nil)))))))
  refine ⟨a9, l7, xs, _, rfl, rfl, z08 _ _ g9, g8, Nat.le_of_lt (small1000 (by have e8 : xs.length = 8 := l8.symm; show xs.length + 7 ≤ 1000; omega)), fun lf hlf => ?_⟩
  have z9 := same_upd (o := .lst (xs ++ [y1, y2, y3, y4, .ref y5, y6, y7])) hlf
  have gf : upd G8 lf (.lst (xs ++ [y1, y2, y3, y4, .ref y5, y6, y7])) lf = some (.lst (xs ++ [y1, y2, y3, y4, .ref y5, y6, y7])) := upd_same
  generalize upd G8 lf (.lst (xs ++ [y1, y2, y3, y4, .ref y5, y6, y7])) = G9 at z9 gf
  have ll := ll.same z9
  have s0f : Same H G9 := s09.trans (z08.trans z9)
  have c1 : decide (0 ≤ -1 - i) = false := decide_eq_false (by omega)
  have c2 : decide (0 ≤ -1 - j) = false := decide_eq_false (by omega)
  have nall : ∀ (k : Nat) (x : V), (xs ++ [y1, y2, y3, y4, .ref y5, y6, y7])[k]? = some x → Jdg K G9 e g x false := fun k x hx => NoJ.all ll
    (NoJ.app (.cons (.pair rfl rfl (.inl c1)) (.cons (.pair rfl rfl (.inl rfl)) (.cons (.pair rfl rfl (.inl rfl)) (.cons (.pair rfl rfl (.inr rfl)) (.cons (.pair rfl rfl (.inr rfl)) (.cons (.pair rfl rfl (.inr rfl)) (.cons (.pair rfl rfl (.inl rfl)) (.cons (.pair rfl rfl (.inl rfl)) .nil))))))))
      (.cons (.other rfl fun a b z => by cases z) (.cons (.other rfl fun a b z => by cases z) (.cons (.other rfl fun a b z => by cases z) (.cons (.pair rfl rfl (.inr c2)) (.cons (.pair rfl rfl (.inl rfl)) (.cons (.pair rfl rfl (.inl rfl)) (.cons (.pair rfl rfl (.inr rfl)) .nil)))))))) hx
  refine ⟨lf, rfl, ⟨_, SqL.of gf⟩, ?_⟩
  refine for_list (K := K) (a := lf) (xs := xs ++ [y1, y2, y3, y4, .ref y5, y6, y7]) (fun k σ H' => ∃ w9 wa wb wc, σ = slP p t u v3 v4 v5 v6 (some (.int i)) (some (.int j)) w9 wa wb wc ∧ Same G9 H') ⟨_, _, _, _, rfl, fun _ _ e => e⟩ (fun k σ H' _ ⟨_, _, _, _, _, sA⟩ => SqL.of (sA _ _ gf)) ?_ ?_
  · rintro k x σ H' hx ⟨w9, wa, wb, wc, rfl, sA⟩
    have jx := (nall k x hx).same sA
    have s0 := s0f.trans sA
    refine ⟨_, rfl, _, rfl, _, rfl, _, _, _, rfl, .inr (.inr ⟨t, u, e, g, rfl, rfl, he.same s0, hg.same s0, oe, og, false, jx, fun H'' s'' => ?_⟩)⟩
    exact ⟨false, false, rfl, rfl, _, rfl, iteF ⟨_, _, _, _, rfl, sA.trans s''⟩⟩
  · rintro σ H' ⟨w9, wa, wb, wc, rfl, sA⟩
    exact q _ _ _ _ H' (s0f.trans sA)
end
end L2.K02
set_option Elab.async false
set_option linter.all false
set_option maxRecDepth 100000
set_option maxHeartbeats 4000000
namespace L2.K02
open PySem PySem.Spec PyProof.Rows L2.EV
theorem EfAt.but {H H' : Hp} {p t : Addr} {e : Ef} (h : EfAt H t e) (b : But p H H') (hp : ∃ ys, H p = some (.lst ys)) : EfAt H' t e := by
  obtain ⟨ys, hp⟩ := hp
  have ne : t ≠ p := fun z => by
    have h' : H t = some (.tup e.vs) := h
    rw [z, hp] at h'
    cases h'
  exact (b t ne).trans h
theorem purse_lst {H : Hp} {p : Addr} {n : Nat} (h : PurseAt H p n) : ∃ ys, H p = some (.lst ys) := by
  obtain ⟨c, z, t, a, h1, h2⟩ := h
  exact ⟨_, h1⟩
theorem pairs_hid {H : Hp} {p : Addr} {ys : List V} (hp : H p = some (.lst ys)) : ∀ {ps : List (Int × Int)} {xs : List V}, Lds H xs (ps.map pT) → Lds (hid H p) xs (ps.map pT)
  | [], _, .nil => .nil
  | q :: ps, _, .cons (.tup (a := t) h l) r => .cons (.tup (hid_of (fun z => by rw [z, hp] at h; cases h) h) (by
    match l with
    | .cons (.v _) (.cons (.v _) .nil) => exact .cons (.v _) (.cons (.v _) .nil))) (pairs_hid hp r)
theorem but_hid {H H' : Hp} {p : Addr} (b : But p H H') : Same (hid H p) H' := fun c o e => (b c (hid_some e).1).trans (hid_some e).2
theorem but_hid2 {H H' : Hp} {p : Addr} (b : But p H H') : Same (hid H p) (hid H' p) := fun c o e => hid_of (hid_some e).1 ((b c (hid_some e).1).trans (hid_some e).2)
/-- parted == [] -/
theorem eqN {K : PySem.W.Frag} {σ : St} {H : Hp} {Q : VK} {l : Addr} {xs : List V} {e g : Ef} (hσ : σ[3]? = some (some (.ref l))) (hl : H l = some (.lst xs)) (d : Lds H xs ((ptd e g).map pT)) (he : e ∈ efs) (hg : g ∈ efs)
    (q : ∀ H', Same H H' → Q (.bl (decide (apart e g = none))) H') : tOp (rEqD K) (tVar 3) (tLst tNil) σ H Q := by
  refine ⟨_, hσ, Nat.zero_le _, fun r hr => ?_⟩
  have s1 := same_upd (o := .lst []) hr
  refine ⟨_, _, .lst (SqL.of (s1 _ _ hl)) (dp_pairs (d.same s1)), .lst (SqL.of upd_same) .nil, shaped_pairs _, by decide +kernel, ?_⟩
  have e1 : PyData.eqv (.list ((ptd e g).map fun p => .tuple [.int p.1, .int p.2])) (.list []) = decide (apart e g = none) := by
    rw [eqv_nil, ← apart_none he hg]
    cases ptd e g <;> rfl
  rw [e1]
  exact q _ s1
section
variable {P : Program} {w : World} {K : PySem.W.Frag} {mg : Str → Option Value} {base : Heap} {f : Addr} {fd : FuncData}
theorem pr_tail (G : Gs P w K mg base) {cdv : Value} {A : Around} {outer : List Env} {s : Shared} {H0 : Hp} {E : XK} (hr : Room 4 (A.deeper (envOfC "_law_pair_right" (defScope sPR) s.heap.objs.size f cdv))) :
    ∃ tt, PSs (cxOf CX0 P w K mg base nPR "_law_pair_right" (defScope sPR) f cdv A outer s H0 E).nox ((defBody sPR).drop 6) tt ∧ ∀ (Q : VK) (p t u l : Addr) (e g : Ef) (n : Nat) (v4 : V) (H : Hp) (xs : List V),
      PurseAt H p n → n < 2 ^ 45 → EfAt H t e → EfAt H u g → e.ok → g.ok → H l = some (.lst xs) → l ≠ p → Lds (hid H p) xs ((ptd e g).map pT) → (∀ H', PurseAt H' p (n + 3) → Old p H H' → Q (.bl true) H') →
      tt { nx := fun _ H' => Q .non H', rt := Q } (slP p t u (some (.ref l)) (some v4) none none none none none none none none) H := by
  have hu := hr.units
  have hr1 := hr.mono (show 1 ≤ 4 by decide)
  have hr2 := hr.mono (show 2 ≤ 4 by decide)
  obtain ⟨tb, hb, kb⟩ := pr_body (P := P) (w := w) (K := K) (mg := mg) (base := base) (f := f) G (cdv := cdv) (A := A) (outer := outer) (s := s) (H0 := H0) (E := E) hr
  refine ⟨_, (pss_cons (ps_set (i := 5) scPR.nd rfl (Or.inl rfl) (pe_got G.dr hr2 (pa_cons (pv 0) (pa_cons (pe_op op_powX pe_int pe_int) pa_nil))))
      (pss_cons (ps_set (i := 6) scPR.nd rfl (Or.inl rfl) (pe_lst (pa_cons (pe_tup (pa_cons (pe_got G.dr hr2 (pa_cons (pv 0) (pa_cons pe_int pa_nil))) (pa_cons (pe_got G.dr hr2 (pa_cons (pv 0) (pa_cons pe_int pa_nil))) pa_nil))) (pa_cons (pl_tup (pla_cons (pl_v 5) (pla_cons (pl_v 5) pla_nil))) (pa_cons (pl_tup (pla_cons (pl_v 5) (pla_cons pl_int pla_nil)))
          (pa_cons (pl_tup (pla_cons pl_int (pla_cons (pl_v 5) pla_nil))) (pa_cons (pe_tup (pa_cons (pv 5) (pa_cons (pe_op op_sub (pv 5) (pe_callB (call_min2 rfl) (by rfl) G.min (by decide +kernel) (pa_cons (pv 5) (pa_cons pe_int pa_nil)))) pa_nil))) pa_nil)))))))
      (pss_cons (ps_for PassesOwn.never rfl (pi_list (pe_op op_cat (pv 6) (pe_slice sl_list (pv 3) po_none (po_some pe_int)))) (pg_tup rfl (pgs_cons (pg_name (i := 7) scPR.nd rfl (Or.inl rfl)) (pgs_cons (pg_name (i := 8) scPR.nd rfl (Or.inl rfl)) pgs_nil))) hb)
      (pss_one (ps_ret (pe_got (G.ex 2) hr (pa_cons (pe_gotK G.apK hr passF (pk_cons (pl_tup (pla_cons pl_int (pla_cons pl_int pla_nil))) (pk_cons (pv 2) (pk_cons (pv 1) pk_nil))))
        (pa_cons (pe_cmpR op_gt (pe_got G.sm hr1 (pa_cons (pv 1) (pa_cons pe_int (pa_cons pe_int pa_nil)))) (pe_got G.sm hr1 (pa_cons (pv 2) (pa_cons pe_int (pa_cons pe_int pa_nil)))) (nomark _)) pa_nil)))))))), ?_⟩
  intro Q p t u l e g n v4 H xs hp hn he hg oe og hl nlp hd q
  refine ⟨_, rfl, _, _, rfl, rfl, ⟨by decide, by decide +kernel⟩, p, _, n, rfl, ⟨by decide +kernel, by decide +kernel⟩, hp, by omega, fun r H1 r0 r1 p1 b1 => ?_⟩
  have rb : 0 ≤ r ∧ r < big := ⟨r0, r1⟩
  refine ⟨_, rfl, p, 9, n + 1, rfl, ⟨by decide, by decide⟩, p1, by omega, fun a H2 a0 a1 p2 b2 => ?_⟩
  refine ⟨_, rfl, p, 9, n + 2, rfl, ⟨by decide, by decide⟩, p2, by omega, fun b H3 c0 c1 p3 b3 => ?_⟩
  have b03 : But p H H3 := b1.trans (b2.trans b3)
  have he3 := he.but b03 (purse_lst hp)
  have hg3 := hg.but b03 (purse_lst hp)
  have hl3 : H3 l = some (.lst xs) := (b03 l nlp).trans hl
  have hd3 := hd.same (but_hid b03)
  have o3 : Old p H H3 := .of_but b03
  refine ⟨(by show 2 ≤ sizeLine; decide), fun t1 ht1 => ?_⟩
  have s4 := same_upd (o := .tup [.int a, .int b]) ht1
  have m1 : Laid (upd H3 t1 (.tup [.int a, .int b])) (.ref t1) (.tup [.v (.int a), .v (.int b)]) := .tup upd_same (.cons (.v _) (.cons (.v _) .nil))
  generalize upd H3 t1 (.tup [.int a, .int b]) = H4 at s4 m1
  refine ⟨_, .tup (.cons (.sl rfl) (.cons (.sl rfl) .nil)), fun y2 H5 s5 m2 => ?_⟩
  refine ⟨_, .tup (.cons (.sl rfl) (.cons (.v _) .nil)), fun y3 H6 s6 m3 => ?_⟩
  refine ⟨_, .tup (.cons (.v _) (.cons (.sl rfl) .nil)), fun y4 H7 s7 m4 => ?_⟩
  refine ⟨_, rfl, _, rfl, _, rfl, r, 3, rfl, _, _, rfl, rfl, (by show 2 ≤ sizeLine; decide), fun t5 ht5 => ?_⟩
  have mb : 0 ≤ r - (if 3 < r then 3 else r) ∧ r - (if 3 < r then 3 else r) < big := by
    have hbig : (0 : Int) < big := by decide +kernel
    split <;> omega
  have s8 := same_upd (o := .tup [.int r, .int (r - (if 3 < r then 3 else r))]) ht5
  have m5 : Laid (upd H7 t5 (.tup [.int r, .int (r - (if 3 < r then 3 else r))])) (.ref t5) (.tup [.v (.int r), .v (.int (r - (if 3 < r then 3 else r)))]) := .tup upd_same (.cons (.v _) (.cons (.v _) .nil))
  generalize upd H7 t5 (.tup [.int r, .int (r - (if 3 < r then 3 else r))]) = H8 at s8 m5
  refine ⟨(by show 5 ≤ sizeLine; decide), fun ls hls => ?_⟩
  have s9 := same_upd (o := .lst [.ref t1, y2, y3, y4, .ref t5]) hls
  have g9 : upd H8 ls (.lst [.ref t1, y2, y3, y4, .ref t5]) ls = some (.lst [.ref t1, y2, y3, y4, .ref t5]) := upd_same
  generalize upd H8 ls (.lst [.ref t1, y2, y3, y4, .ref t5]) = H9 at s9 g9
  have s79 := s8.trans s9
  have s69 := s7.trans s79
  have s59 := s6.trans s69
  have s49 := s5.trans s59
  have s39 := s4.trans s49
  have d5 : Lds H9 [.ref t1, y2, y3, y4, .ref t5] _ := .cons (m1.same s49) (.cons ((m2.same nw_old).same s59) (.cons ((m3.same nw_old).same s69) (.cons ((m4.same nw_old).same s79) (.cons (m5.same s9) .nil))))
  refine ⟨_, rfl, _, rfl, _, rfl, l, xs, rfl, SqL.of (s39 _ _ hl3), fun lc hlc => ?_⟩
  have s10 := same_upd (o := .lst (cutV xs none (some 2))) hlc
  have g10 : upd H9 lc (.lst (cutV xs none (some 2))) lc = some (.lst (cutV xs none (some 2))) := upd_same
  generalize upd H9 lc (.lst (cutV xs none (some 2))) = H10 at s10 g10
  have cl : (cutV xs none (some 2)).length ≤ 2 := by
    unfold cutV
    rw [List.length_take, HT.sIx_none, show (2 : Int) = ((2 : Nat) : Int) from rfl, HT.sIx_nat]
    omega
  refine ⟨ls, lc, _, _, rfl, rfl, s10 _ _ g9, g10, Nat.le_of_lt (small1000 (by show 5 + (cutV xs none (some 2)).length ≤ 1000; omega)), fun lz hlz => ?_⟩
  have s11 := same_upd (o := .lst ([.ref t1, y2, y3, y4, .ref t5] ++ cutV xs none (some 2))) hlz
  have g11 : upd H10 lz (.lst ([.ref t1, y2, y3, y4, .ref t5] ++ cutV xs none (some 2))) lz = some (.lst ([.ref t1, y2, y3, y4, .ref t5] ++ cutV xs none (some 2))) := upd_same
  generalize upd H10 lz (.lst ([.ref t1, y2, y3, y4, .ref t5] ++ cutV xs none (some 2))) = H11 at s11 g11
  have s911 := s10.trans s11
  have s311 := s39.trans s911
  have item : ∀ x ∈ [V.ref t1, y2, y3, y4, .ref t5] ++ cutV xs none (some 2), ∃ (q : Addr) (i j : Int), x = .ref q ∧ H11 q = some (.tup [.int i, .int j]) ∧ (0 ≤ i ∧ i < big) ∧ 0 ≤ j ∧ j < big := by
    have ofP : ∀ {x : V} {i j : Int} {HH : Hp}, Same HH H11 → Laid HH x (.tup [.v (.int i), .v (.int j)]) → (0 ≤ i ∧ i < big) → (0 ≤ j ∧ j < big) → ∃ (q : Addr) (i j : Int), x = .ref q ∧ H11 q = some (.tup [.int i, .int j]) ∧ (0 ≤ i ∧ i < big) ∧ 0 ≤ j ∧ j < big := by
      intro x i j HH sH lx hi hj
      obtain ⟨q, rfl, gq⟩ := pair_inv lx
      exact ⟨q, i, j, rfl, sH _ _ gq, hi, hj⟩
    have b9 : (9 : Int) < big := by decide +kernel
    have b0 : (0 : Int) ≤ 0 ∧ (0 : Int) < big := ⟨Int.le_refl 0, by decide +kernel⟩
    intro x hx
    rcases List.mem_append.mp hx with hx | hx
    · have q1 := ofP s911 (m1.same s49) ⟨a0, by omega⟩ ⟨c0, by omega⟩
      have q2 := ofP s911 ((m2.same nw_old).same s59) rb rb
      have q3 := ofP s911 ((m3.same nw_old).same s69) rb b0
      have q4 := ofP s911 ((m4.same nw_old).same s79) b0 rb
      have q5 := ofP s911 (m5.same s9) rb mb
      simp only [List.mem_cons, List.not_mem_nil, or_false] at hx
      rcases hx with rfl | rfl | rfl | rfl | rfl
      · exact q1
      · exact q2
      · exact q3
      · exact q4
      · exact q5
    · have hm : x ∈ xs := by
        unfold cutV at hx
        exact List.mem_of_mem_drop (List.mem_of_mem_take hx)
      obtain ⟨k, hk⟩ := List.mem_iff_getElem?.mp hm
      obtain ⟨T, hT, lT⟩ := hd3.at hk
      rw [List.getElem?_map] at hT
      cases eT : (ptd e g)[k]? with
      | none => rw [eT] at hT; cases hT
      | some pr =>
        rw [eT] at hT
        obtain rfl : pT pr = T := Option.some.inj hT
        have := ptd_small (e := e) (g := g) 7 (List.mem_of_getElem? eT)
        exact ofP s311 lT ⟨by omega, by omega⟩ ⟨by omega, by omega⟩
  refine ⟨lz, rfl, ⟨_, SqL.of g11⟩, ?_⟩
  refine for_list (K := K) (a := lz) (xs := [V.ref t1, y2, y3, y4, .ref t5] ++ cutV xs none (some 2)) (fun k σ H' => ∃ v7 v8 w9 wa wb wc, σ = slP p t u (some (.ref l)) (some v4) (some (.int r)) (some (.ref ls)) v7 v8 w9 wa wb wc ∧ Same H11 H')
    ⟨_, _, _, _, _, _, rfl, fun _ _ e => e⟩ (fun k σ H' _ ⟨_, _, _, _, _, _, _, sA⟩ => SqL.of (sA _ _ g11)) ?_ ?_
  · rintro k x σ H' hx ⟨v7, v8, w9, wa, wb, wc, rfl, sA⟩
    obtain ⟨qx, i, j, rfl, gq, hi, hj⟩ := item x (List.mem_of_getElem? hx)
    refine ⟨qx, _, rfl, SqT.of (sA _ _ gq), rfl, _, _, rfl, _, _, rfl, rfl, ?_⟩
    exact kb _ p t u e g i j _ _ _ _ _ _ _ _ H' (he3.same (s311.trans sA)) (hg3.same (s311.trans sA)) oe og hi hj fun x9 xa xb xc H'' s'' => ⟨_, _, _, _, _, _, rfl, sA.trans s''⟩
  · rintro σ H' ⟨v7, v8, w9, wa, wb, wc, rfl, sA⟩
    have s3' := s311.trans sA
    refine ⟨_, .tup (.cons (.v _) (.cons (.v _) .nil)), fun x1 H12 s12 l12 => ?_⟩
    obtain ⟨q1, rfl, g12⟩ := pair_inv (l12.same nw_old)
    have s312 := s3'.trans s12
    refine ⟨_, rfl, _, rfl, rfl, _, _, _, rfl, .inr (.inr ⟨t, u, e, g, rfl, rfl, he3.same s312, hg3.same s312, oe, og, _, .some g12 (Int.le_refl 0) (Int.le_refl 0), fun H13 s13 => ?_⟩)⟩
    have s313 := s312.trans s13
    refine ⟨_, rfl, t, e, 0, 0, rfl, he3.same s313, fun H14 s14 => ?_⟩
    have s314 := s313.trans s14
    refine ⟨_, rfl, u, g, 0, 0, rfl, hg3.same s314, fun H15 s15 => ⟨_, _, rfl, rfl, ?_⟩⟩
    have s315 := s314.trans s15
    refine ⟨_, _, rfl, .flat rfl, fun H16 s16 => ?_⟩
    have s316 := s315.trans s16
    exact q H16 (p3.same s316) (o3.trans (.of_same s316))
end
end L2.K02
set_option Elab.async false
set_option linter.all false
set_option maxRecDepth 100000
set_option maxHeartbeats 4000000
namespace L2.K02
open PySem PySem.Spec PyProof.Rows L2.EV
def spPR : Sp := fun vs H Q _ => ∃ (p : Addr) (n : Nat), vs = [.ref p] ∧ PurseAt H p n ∧ n < 2 ^ 40 ∧ ∀ H', PurseAt H' p (n + 5) → Old p H H' → Q (.bl true) H'
theorem one_eff {H1 H2 : Hp} {p : Addr} {xs : List V} {i : Nat} {x : V} (d : Lds H1 xs (efs.map Ef.T)) (hx : xs[i]? = some x) (b : But p H1 H2) (hp : ∃ ys, H1 p = some (.lst ys)) : ∃ (t : Addr) (e : Ef), x = .ref t ∧ e ∈ efs ∧ e.ok ∧ EfAt H2 t e := by
  obtain ⟨T, hT, lT⟩ := d.at hx
  rw [List.getElem?_map] at hT
  cases eT : efs[i]? with
  | none => rw [eT] at hT; cases hT
  | some e =>
    rw [eT] at hT
    obtain rfl : e.T = T := Option.some.inj hT
    obtain ⟨t, rfl, h⟩ := Ef.at lT
    have m := List.mem_of_getElem? eT
    exact ⟨t, e, rfl, m, efs_ok e m, h.but b hp⟩
theorem efs20 : efs.length = 20 := by decide
section
variable {P : Program} {w : World} {K : PySem.W.Frag} {mg : Str → Option Value} {base : Heap} {f : Addr} {fd : FuncData}
theorem ok_pr (F : FnP K "_law_pair_right" sPR f fd) (G : Gs P w K mg base) : FnOk P w K mg base CX0 5 f fd ["_law_purse_here"] spPR := by
  refine F.ok scPR (fun vs H Q E h => ?_) (fun cdv A outer s H vs Q E hr h => ?_)
  · obtain ⟨p, n, rfl, _⟩ := h
    rfl
  · obtain ⟨p, n, rfl, hp, hn, q⟩ := h
    have hu := hr.units
    have hr1 := hr.mono (show 1 ≤ 4 by decide)
    have hr2 := hr.mono (show 2 ≤ 4 by decide)
    have hr3 := hr.mono (show 3 ≤ 4 by decide)
    obtain ⟨tt, ht, kt⟩ := pr_tail (P := P) (w := w) (K := K) (mg := mg) (base := base) (f := f) G (cdv := cdv) (A := A) (outer := outer) (s := s) (H0 := H) (E := E) hr
    refine ⟨_, PSs.nox (pss_cons (ps_par (i := 1) (j := 2) rfl scPR.nd rfl rfl (by decide) rfl rfl (pa_cons (pe_got G.one hr3 (pa_cons (pv 0) (pa_cons (pe_got0 G.ae hr1) pa_nil))) (pa_cons (pe_got G.one hr3 (pa_cons (pv 0) (pa_cons (pe_got0 G.ae hr1) pa_nil))) pa_nil)) (by rfl))
      (pss_cons (ps_set (i := 3) scPR.nd rfl (Or.inl rfl) (pe_got G.pd hr2 (pa_cons (pv 1) (pa_cons (pv 2) (pa_cons pe_int pa_nil)))))
      (pss_cons (ps_if (PW.pt (pw_or (pt_not (pt_val (pe_got (G.ex 2) hr (pa_cons (pe_gotF G.be hr (pa_cons (pv 1) (pa_cons (pv 2) pa_nil))) (pa_cons (pe_cmpR (op_eqD hu) (pv 3) (pe_lst pa_nil) (nomark _)) pa_nil)))))
          (pw_or1 (pt_not (pt_val (pe_got (G.ex 2) hr (pa_cons (pe_gotK G.beK hr passF (pk_cons (pv 2) (pk_cons (pv 1) pk_nil))) (pa_cons (pe_cmpR (op_eqD hu) (pv 3) (pe_lst pa_nil) (nomark _)) pa_nil)))))))) (pss_one (ps_ret pe_bl)) pss_nil)
      (pss_cons (ps_set (i := 4) scPR.nd rfl (Or.inl rfl) (pe_gotF G.ps hr (pa_cons (pv 1) (pa_cons (pv 2) pa_nil))))
      (pss_cons (ps_if (PW.pt (pw_or (pt_cmpR op_ne (pe_cmpR op_isN (pv 4) pe_non (nomark _)) (pe_cmpR (op_eqD hu) (pv 3) (pe_lst pa_nil) (nomark _)) (nomark _))
          (pw_or1 (pt_not (pt_val (pe_got (G.ex 2) hr (pa_cons (pe_gotK G.psK hr passF (pk_cons (pv 2) (pk_cons (pv 1) pk_nil))) (pa_cons (pv 4) pa_nil)))))))) (pss_one (ps_ret pe_bl)) pss_nil)
      (pss_cons (ps_if (pt_cmpR op_notN (pv 4) pe_non (nomark _))
        (pss_cons (ps_if (PW.pt (pw_or (pt_not (pt_val (pe_callB call_isi (by rfl) G.is (by decide +kernel) (pa_cons (pv 4) (pa_cons (pe_bltn (v := .ty "tuple") (u := .type "tuple") (by rfl) G.tup (by decide +kernel) rfl) pa_nil)))))
            (pw_or (pt_cmpR op_ne (pe_callB call_len_seq (by rfl) G.len PySem.boot_len (pa_cons (pv 4) pa_nil)) pe_int (nomark _))
            (pw_or1 (pt_cmpR (op_neD hu) (pe_lc (own := [("_law_at", 13)]) (g := gName 13) (tt := tNot (tB (tCall (spCnt K) [] E0 (tCons (tVar 13) tNil)))) (by rfl) scPR.nd (pi_tup (pv 4))
                (blkOk_by (own := [("_law_at", 13)]) (N := nPR) (sc := defScope sPR) (by decide +kernel)) (fun _ _ _ _ _ => pg_name (i := 13) scPR.nd rfl (by first | exact Or.inl rfl | exact Or.inr rfl)) (fun _ _ _ _ _ => pts_one (pt_not (pt_val (pe_got G.lc hr1 (pa_cons (pv 13) pa_nil)))))
                (fun _ _ _ _ _ => pv 13)) (pe_lst pa_nil) (nomark _)))))) (pss_one (ps_ret pe_bl)) pss_nil)
        (pss_one (ps_if (PW.pt (pw_or (pt_cmpR op_le (pe_got G.sm hr1 (pa_cons (pv 1) (pa_cons (pe_ix ix_tup (pv 4) pe_int (fun _ _ => rfl)) (pa_cons (pe_ix ix_tup (pv 4) pe_int (fun _ _ => rfl)) pa_nil))))
            (pe_got G.sm hr1 (pa_cons (pv 2) (pa_cons (pe_ix ix_tup (pv 4) pe_int (fun _ _ => rfl)) (pa_cons (pe_ix ix_tup (pv 4) pe_int (fun _ _ => rfl)) pa_nil)))) (nomark _))
            (pw_or1 (pt_not (pt_val (pe_gotF G.ap hr (pa_cons (pv 1) (pa_cons (pv 2) (pa_cons (pv 4) pa_nil))))))))) (pss_one (ps_ret pe_bl)) pss_nil))) pss_nil) ht)))))), ?_⟩
    -- the two effects
    refine ⟨_, rfl, rfl, fun l1 xs1 H1 s1 n1 g1 d1 => ?_⟩
    have p1 := hp.same s1
    have ne1 : l1 ≠ p := fun z => by
      obtain ⟨ys, hy⟩ := purse_lst hp
      rw [z, hy] at n1
      cases n1
    have len1 : xs1.length = 20 := by rw [← d1.length, List.length_map, efs20]
    refine ⟨p, l1, xs1, n, rfl, g1, ne1, ⟨by omega, by rw [len1]; decide⟩, p1, by omega, fun i1 x1 H2 hx1 p2 b2 => ?_⟩
    obtain ⟨t, e, rfl, me, oe, he2⟩ := one_eff d1 hx1 b2 (purse_lst p1)
    refine ⟨_, rfl, rfl, fun l2 xs2 H3 s3 n3 g3 d3 => ?_⟩
    have p3 := p2.same s3
    have ne3 : l2 ≠ p := fun z => by
      obtain ⟨ys, hy⟩ := purse_lst p2
      rw [z, hy] at n3
      cases n3
    have len3 : xs2.length = 20 := by rw [← d3.length, List.length_map, efs20]
    refine ⟨p, l2, xs2, n + 1, rfl, g3, ne3, ⟨by omega, by rw [len3]; decide⟩, p3, by omega, fun i2 x2 H4 hx2 p4 b4 => ?_⟩
    obtain ⟨u, g, rfl, mg', og, hg4⟩ := one_eff d3 hx2 b4 (purse_lst p3)
    have he4 := (he2.same s3).but b4 (purse_lst p3)
    have o4 : Old p H H4 := (Old.of_same s1).trans ((Old.of_but b2).trans ((Old.of_same s3).trans (.of_but b4)))
    refine ⟨_, _, rfl, ?_⟩
    -- what parts them
    refine ⟨_, rfl, _, rfl, t, u, e, g, rfl, he4, hg4, fun l xs H5 s5 n5 g5 d5 => ?_⟩
    have nl : l ≠ p := fun z => by
      obtain ⟨ys, hy⟩ := purse_lst p4
      rw [z, hy] at n5
      cases n5
    refine ⟨_, rfl, _, rfl, _, _, rfl, .inr (.inr ⟨t, u, e, g, rfl, rfl, he4.same s5, hg4.same s5, oe, og, fun H6 s6 => ?_⟩)⟩
    refine eqN rfl (s6 _ _ g5) (d5.same s6) me mg' fun H7 s7 => ⟨_, _, rfl, .flat rfl, fun H8 s8 => ⟨true, rfl, iteF ?_⟩⟩
    have s58 := s6.trans (s7.trans s8)
    have s48 := s5.trans s58
    refine ⟨_, rfl, _, rfl, rfl, _, _, rfl, .inr (.inr ⟨t, u, e, g, rfl, rfl, he4.same s48, hg4.same s48, oe, og, fun H9 s9 => ?_⟩)⟩
    have s59 := s58.trans s9
    refine eqN rfl (s59 _ _ g5) (d5.same s59) me mg' fun H10 s10 => ⟨_, _, rfl, .flat rfl, fun H11 s11 => ⟨true, rfl, iteF ?_⟩⟩
    have s511 := s59.trans (s10.trans s11)
    have s411 := s5.trans s511
    have he11 := he4.same s411
    have hg11 := hg4.same s411
    -- what is told: none, or two sides
    have fin : ∀ (v4 : V) (H' : Hp), Same H5 H' → tt { nx := fun _ H' => Q .non H', rt := Q } (slP p t u (some (.ref l)) (some v4) none none none none none none none none) H' := by
      intro v4 H' s'
      have p5 := p4.same (s5.trans s')
      obtain ⟨ys, hy⟩ := purse_lst p5
      refine kt Q p t u l e g (n + 2) v4 H' xs p5 (by omega) (he4.same (s5.trans s')) (hg4.same (s5.trans s')) oe og (s' _ _ g5) nl (pairs_hid hy (d5.same s')) fun H'' p'' o'' => ?_
      exact q H'' (p''.up (by omega)) (o4.trans ((Old.of_same (s5.trans s')).trans o''))
    refine ⟨_, rfl, _, rfl, _, _, rfl, .inr (.inr ⟨t, u, e, g, rfl, rfl, he11, hg11, oe, og, fun ea H12 s12 => ?_, fun a b ea pp H12 s12 gp => ?_⟩)⟩
    · have s512 := s511.trans s12
      refine ⟨_, rfl, rfl, ?_⟩
      refine eqN rfl (s512 _ _ g5) (d5.same s512) me mg' fun H13 s13 => ⟨rfl, _, rfl, ?_⟩
      have e1 : (!decide (V.bl (decide (V.non = V.non)) = V.bl (decide (apart e g = none)))) = false := by rw [ea]; rfl
      rw [e1]
      refine iteF ?_
      have s513 := s512.trans s13
      have s413 := s5.trans s513
      refine ⟨_, rfl, _, rfl, rfl, _, _, rfl, .inr (.inr ⟨t, u, e, g, rfl, rfl, he4.same s413, hg4.same s413, oe, og, fun _ H14 s14 => ?_, fun a b z => by rw [ea] at z; cases z⟩)⟩
      refine ⟨_, rfl, _, _, rfl, .flat rfl, fun H15 s15 => ⟨true, rfl, iteF ?_⟩⟩
      have s515 := s513.trans (s14.trans s15)
      refine ⟨_, rfl, rfl, _, rfl, iteF ?_⟩
      exact fin .non H15 s515
    · obtain ⟨pt, a0, b0⟩ := apart_some ea
      have s512 := s511.trans s12
      refine ⟨_, rfl, rfl, ?_⟩
      refine eqN rfl (s512 _ _ g5) (d5.same s512) me mg' fun H13 s13 => ⟨rfl, _, rfl, ?_⟩
      have e1 : (!decide (V.bl (decide (V.ref pp = V.non)) = V.bl (decide (apart e g = none)))) = false := by rw [ea]; rfl
      rw [e1]
      refine iteF ?_
      have s513 := s512.trans s13
      have s413 := s5.trans s513
      have gp13 := s13 _ _ gp
      refine ⟨_, rfl, _, rfl, rfl, _, _, rfl, .inr (.inr ⟨t, u, e, g, rfl, rfl, he4.same s413, hg4.same s413, oe, og, fun z => (by rw [ea] at z; cases z), fun a' b' z qq H14 s14 gq => ?_⟩)⟩
      rw [ea] at z
      obtain ⟨rfl, rfl⟩ : a = a' ∧ b = b' := by
        have := Option.some.inj z
        exact ⟨congrArg Prod.fst this, congrArg Prod.snd this⟩
      have gp14 := s14 _ _ gp13
      refine ⟨_, rfl, _, _, rfl, .tup gq gp14 rfl (by show 2 ≤ 900; decide) (fun i x y hx hy => ?_), fun H15 s15 => ⟨true, rfl, iteF ?_⟩⟩
      · rw [hx] at hy
        cases hy
        match i, hx with
        | 0, hx => cases hx; exact .flat rfl
        | 1, hx => cases hx; exact .flat rfl
      have s515 := s513.trans (s14.trans s15)
      have gp15 := s15 _ _ gp14
      have a0' : atI [V.int a, V.int b] 0 = some (V.int a) := atI_nat (j := 0) rfl
      have a1' : atI [V.int a, V.int b] 1 = some (V.int b) := atI_nat (j := 1) rfl
      refine ⟨_, rfl, rfl, _, rfl, iteT ?_⟩
      refine ⟨_, rfl, .ref pp, .ty "tuple", _, _, true, rfl, .ty _, .base (.tup gp15), kit_ty (by decide +kernel), _, rfl, iteF ?_⟩
      refine ⟨_, rfl, pp, _, rfl, .inr (SqT.of gp15), rfl, _, rfl, iteF ?_⟩
      refine ⟨_, rfl, pp, rfl, ⟨_, SqT.of gp15⟩, fun D hD => ?_⟩
      refine lc_tup (K := K) (a := pp) (xs := [.int a, .int b]) (fun i H' => Same H15 H' ∧ H' D = some (.lst [])) ⟨same_upd hD, upd_same⟩ (fun i H' _ ⟨sA, _⟩ => SqT.of (sA _ _ gp15)) ?_ ?_
      · rintro i x H' hx ⟨sA, gA⟩
        have hx' : ∃ j : Int, x = .int j ∧ 0 ≤ j := by
          match i, hx with
          | 0, hx => cases hx; exact ⟨a, rfl, a0⟩
          | 1, hx => cases hx; exact ⟨b, rfl, b0⟩
        obtain ⟨j, rfl, j0⟩ := hx'
        exact ⟨rfl, _, rfl, _, true, rfl, cnt_pos j0, true, rfl, iteF ⟨sA, gA⟩⟩
      · rintro H16 ⟨s16, g16⟩
        refine ⟨Nat.zero_le _, fun r hr0 => ?_⟩
        have s17 := same_upd (o := .lst []) hr0
        refine ⟨.list [], .list [], .lst (SqL.of (s17 _ _ g16)) .nil, .lst (SqL.of upd_same) .nil, by decide +kernel, by decide +kernel, _, rfl, ?_⟩
        rw [SeqAt.eqv_refl (.list []) (by decide +kernel)]
        refine iteF ?_
        generalize upd H16 r (.lst []) = H17 at s17
        have s1517 := s16.trans s17
        have s517 := s515.trans s1517
        have s417 := s5.trans s517
        have gp17 := s1517 _ _ gp15
        refine ⟨_, rfl, _, rfl, pp, _, _, _, rfl, rfl, SqT.of gp17, a0', _, rfl, pp, _, _, _, rfl, rfl, SqT.of gp17, a1', t, e, a, b, rfl, he4.same s417, fun H18 s18 => ?_⟩
        have gp18 := s18 _ _ gp17
        have s418 := s417.trans s18
        refine ⟨_, rfl, _, rfl, pp, _, _, _, rfl, rfl, SqT.of gp18, a0', _, rfl, pp, _, _, _, rfl, rfl, SqT.of gp18, a1', u, g, a, b, rfl, hg4.same s418, fun H19 s19 => ⟨_, _, rfl, rfl, _, rfl, ?_⟩⟩
        have s419 := s418.trans s19
        have gp19 := s19 _ _ gp18
        have lt : g.wt a b < e.wt a b := of_decide_eq_true pt
        rw [decide_eq_false (by omega)]
        refine iteF ?_
        refine ⟨_, rfl, _, rfl, _, rfl, _, _, _, rfl, .inr (.inr ⟨t, u, e, g, rfl, rfl, he4.same s419, hg4.same s419, oe, og, _, .some gp19 a0 b0, fun H20 s20 => ?_⟩)⟩
        rw [pt]
        refine ⟨true, rfl, iteF ?_⟩
        exact fin (.ref pp) H20 (s517.trans (s18.trans (s19.trans s20)))
end
end L2.K02
set_option Elab.async false
set_option linter.all false
set_option maxRecDepth 100000
set_option maxHeartbeats 4000000
namespace L2.K02
open PySem PySem.Spec PyProof.Rows L2.EV
theorem tup_inv {H : Hp} {x : V} {ts : List T} (h : Laid H x (.tup ts)) : ∃ a xs, x = .ref a ∧ H a = some (.tup xs) ∧ Lds H xs ts := by
  cases h with
  | tup h l => exact ⟨_, _, rfl, h, l⟩
def rowT (b : Bool) (t : T) : T := .tup [t, .v (.bl b)]
theorem row_in {H : Hp} {x y : V} {t : T} {b : Bool} (h : Laid H x t) (r : Laid H y (.tup [.v x, .v (.bl b)])) : Laid H y (rowT b t) := by
  obtain ⟨q, rfl, g⟩ := pair_inv r
  exact .tup g (.cons h (.cons (.v _) .nil))
theorem row_out {H : Hp} {y : V} {t : T} {b : Bool} (h : Laid H y (rowT b t)) : ∃ q x, y = .ref q ∧ H q = some (.tup [x, .bl b]) ∧ Laid H x t := by
  obtain ⟨q, xs, rfl, g, l⟩ := tup_inv h
  match l with
  | .cons l1 (.cons (.v _) .nil) => exact ⟨q, _, rfl, g, l1⟩
theorem rows_at {H : Hp} {xs : List V} {ts : List T} {b : Bool} {k : Nat} {y : V} (l : Lds H xs (ts.map (rowT b))) (hy : xs[k]? = some y) : ∃ t, t ∈ ts ∧ Laid H y (rowT b t) := by
  obtain ⟨u, hu, lu⟩ := l.at hy
  rw [List.getElem?_map] at hu
  cases e : ts[k]? with
  | none => rw [e] at hu; cases hu
  | some t =>
    rw [e] at hu
    obtain rfl : rowT b t = u := Option.some.inj hu
    exact ⟨t, List.mem_of_getElem? e, lu⟩
theorem wipe1 (σ : St) (j : Nat) (x : V) : wipe ((wipe σ [j]).set j (some x)) [j] = wipe σ [j] := by
  show ((σ.set j none).set j (some x)).set j none = σ.set j none
  rw [List.set_set, List.set_set]
/-- [(x, b) for x in ..] over a tuple: what a turn does -/
theorem turn_rows {σ : St} {H H' : Hp} {D : Addr} {j k : Nat} {x : V} {b : Bool} {zs : List V} {ts : List T} {t : T} (hj : j < σ.length) (hD : H D = none) (s : Same H H') (gD : H' D = some (.lst zs)) (l : Lds (hid H' D) zs ((ts.take k).map (rowT b))) (ht : ts[k]? = some t) (hx : Laid (hid H' D) x t) (hn : zs.length ≤ 900) :
    gName j x (wipe σ [j]) H' fun σ2 H2 => wipe σ2 [j] = wipe σ [j] ∧ tYes σ2 H2 fun c H3 => if c = true then tL (.tup [.sl j, .v (.bl b)]) σ2 H3 fun y H4 => ∃ acc, H4 D = some (.lst acc) ∧ acc.length < sizeLine ∧
      (Same H (upd H4 D (.lst (acc ++ [y]))) ∧ ∃ ws, (upd H4 D (.lst (acc ++ [y]))) D = some (.lst ws) ∧ Lds (hid (upd H4 D (.lst (acc ++ [y]))) D) ws ((ts.take (k + 1)).map (rowT b)))
      else (Same H H3 ∧ ∃ ws, H3 D = some (.lst ws) ∧ Lds (hid H3 D) ws ((ts.take (k + 1)).map (rowT b))) := by
  refine ⟨wipe1 σ j x, ?_⟩
  dsimp only [tYes]
  rw [if_pos rfl]
  have hσ : ((wipe σ [j]).set j (some x))[j]? = some (some x) := by
    show ((σ.set j none).set j (some x))[j]? = _
    rw [List.set_set, List.getElem?_set_self hj]
  refine ⟨_, .tup (.cons (.sl hσ) (.cons (.v _) .nil)), fun y H4 s4 l4 => ⟨zs, s4 _ _ gD, small1000 (by omega), fun c o e => ?_, _, upd_same, ?_⟩⟩
  · rw [upd_ne (ne_of_none e hD)]
    exact s4 _ _ (s _ _ e)
  · rw [hid_upd, List.take_succ, ht, List.map_append]
    exact (l.same (hid_mono s4)).append (.cons (row_in (hx.same (hid_mono s4)) (l4.same (nw_hid gD))) .nil)
/-! ### words -/
abbrev sWR : Stmt := top 45
abbrev nWR : List Str := ["_law_rows", "_law_value", "_law_due", "_law_word"]
theorem scWR : FnScope nWR [] (defScope sWR) := ⟨rfl, rfl, rfl, by decide +kernel, rfl, by decide +kernel, by decide +kernel⟩
def wds0 : List T := [.v (.str "a"), .v (.str "z"), .v (.str "in"), .v (.str "carry"), .v (.str "abcdefgh"), .v (.str "coins")]
def wds1 : List T := [.v (.str ""), .v (.str " "), .v (.str "A"), .v (.str "aB"), .v (.str "a1"), .v (.str "1"), .v (.str "abcdefghi"), .v (.str "a b"), .v (.str "_"), .v (.str "a_"), .v (.str "-"), .v (.str "\n"), .v (.str "a\n"), .v (.str "'a"), .v (.str "(")]
def wds2 : List T := [.v .non, .v (.int 0), .v (.bl true), .lst [.v (.str "a")], .tup [.v (.str "a")], .dct [.inr "a"] [.v (.int 1)], .lst [], .tup []]
theorem wds_good : (oksT wds0 && (oksT wds1 && oksT wds2)) = true := by decide +kernel
theorem wds_judged : (wds0.all wdT && ((wds1 ++ wds2).all fun t => !wdT t)) = true := by decide +kernel
def spTrue : Sp := fun vs H Q _ => vs = [] ∧ ∀ H', Same H H' → Q (.bl true) H'
theorem clsT0 : clsT wds0 = true := by decide +kernel
theorem clsT1 : clsT wds1 = true := by decide +kernel
theorem clsT2 : clsT wds2 = true := by decide +kernel
theorem oks_mem {ts : List T} {t : T} (o : oksT ts = true) (h : t ∈ ts) : okT t = true := by
  obtain ⟨i, hi⟩ := List.mem_iff_getElem?.mp h
  exact oks_at o hi
section
variable {P : Program} {w : World} {K : PySem.W.Frag} {mg : Str → Option Value} {base : Heap} {f : Addr} {fd : FuncData}
theorem ok_wr (F : FnP K "_law_words_right" sWR f fd) (GE : ∀ n, Got P w K mg base (n + 1) "_law_exact" pEx (spEx n)) (GW : Got P w K mg base 2 "is_word" ["value"] (spWF K)) (KW : GotK P w K mg base CX0 2 "is_word" ["value"] ["value"] (fun {_} l => l) (spWF K)) :
    FnOk P w K mg base CX0 4 f fd [] spTrue := by
  refine F.ok scWR (fun vs H Q E h => ?_) (fun cdv A outer s H vs Q E hr h => ?_)
  · obtain ⟨rfl, _⟩ := h
    rfl
  · obtain ⟨rfl, q⟩ := h
    refine ⟨_, PSs.nox (pss_cons (ps_setLc (i := 0) (own := [("_law_word", 3)]) (g := gName 3) (tt := tYes) (by rfl) scWR.nd rfl rfl (by rfl) (pi_tup (pl_tup (pla_cons pl_str (pla_cons pl_str (pla_cons pl_str (pla_cons pl_str (pla_cons pl_str (pla_cons pl_str pla_nil))))))))
        (blkOk_by (own := [("_law_word", 3)]) (N := nWR) (sc := defScope sWR) (by decide +kernel)) (fun _ _ _ _ _ => pg_name (i := 3) scWR.nd rfl (by first | exact Or.inl rfl | exact Or.inr rfl)) (fun _ _ _ _ _ => pts_nil) (fun _ _ _ _ _ => pl_tup (pla_cons (pl_v 3) (pla_cons pl_bl pla_nil))))
      (pss_cons (ps_set (i := 0) scWR.nd rfl (Or.inl rfl) (pe_op op_cat (pv 0) (pe_lc (own := [("_law_word", 3)]) (g := gName 3) (tt := tYes) (by rfl) scWR.nd (pi_tup (pl_tup (pla_cons pl_str (pla_cons pl_str (pla_cons pl_str (pla_cons pl_str (pla_cons pl_str (pla_cons pl_str (pla_cons pl_str (pla_cons pl_str (pla_cons pl_str (pla_cons pl_str (pla_cons pl_str (pla_cons pl_str (pla_cons pl_str (pla_cons pl_str (pla_cons pl_str pla_nil)))))))))))))))))
        (blkOk_by (own := [("_law_word", 3)]) (N := nWR) (sc := defScope sWR) (by decide +kernel)) (fun _ _ _ _ _ => pg_name (i := 3) scWR.nd rfl (by first | exact Or.inl rfl | exact Or.inr rfl)) (fun _ _ _ _ _ => pts_nil) (fun _ _ _ _ _ => pl_tup (pla_cons (pl_v 3) (pla_cons pl_bl pla_nil))))))
      (pss_cons (ps_set (i := 0) scWR.nd rfl (Or.inl rfl) (pe_op op_cat (pv 0) (pe_lc (own := [("_law_value", 1)]) (g := gName 1) (tt := tYes) (by rfl) scWR.nd (pi_tup (pl_tup (pla_cons pl_non (pla_cons pl_int (pla_cons pl_bl (pla_cons (pl_lst (pla_cons pl_str pla_nil)) (pla_cons (pl_tup (pla_cons pl_str pla_nil)) (pla_cons (pl_d1 pl_int) (pla_cons (pl_lst pla_nil) (pla_cons (pl_tup pla_nil) pla_nil))))))))))
        (blkOk_by (own := [("_law_value", 1)]) (N := nWR) (sc := defScope sWR) (by decide +kernel)) (fun _ _ _ _ _ => pg_name (i := 1) scWR.nd rfl (by first | exact Or.inl rfl | exact Or.inr rfl)) (fun _ _ _ _ _ => pts_nil) (fun _ _ _ _ _ => pl_tup (pla_cons (pl_v 1) (pla_cons pl_bl pla_nil))))))
      (pss_cons (ps_for PassesOwn.never rfl (pi_list (pv 0)) (pg_tup rfl (pgs_cons (pg_name (i := 1) scWR.nd rfl (Or.inl rfl)) (pgs_cons (pg_name (i := 2) scWR.nd rfl (Or.inl rfl)) pgs_nil)))
        (pss_one (ps_if (PW.pt (pw_or (pt_not (pt_val (pe_got (GE 1) hr (pa_cons (pe_got GW hr (pa_cons (pv 1) pa_nil)) (pa_cons (pv 2) pa_nil))))) (pw_or1 (pt_not (pt_val (pe_got (GE 1) hr (pa_cons (pe_gotK KW hr pass0 (pk_cons (pv 1) pk_nil)) (pa_cons (pv 2) pa_nil)))))))) (pss_one (ps_ret pe_bl)) pss_nil)))
      (pss_one (ps_ret pe_bl)))))), ?_⟩
    obtain ⟨o0, o12⟩ := Bool.and_eq_true_iff.mp wds_good
    obtain ⟨o1, o2⟩ := Bool.and_eq_true_iff.mp o12
    obtain ⟨j0, j12⟩ := Bool.and_eq_true_iff.mp wds_judged
    have judged : ∀ (b : Bool) (t : T), (b = true ∧ t ∈ wds0) ∨ (b = false ∧ t ∈ wds1 ++ wds2) → okT t = true ∧ wdT t = b := by
      rintro b t (⟨rfl, h⟩ | ⟨rfl, h⟩)
      · exact ⟨oks_mem o0 h, List.all_eq_true.mp j0 t h⟩
      · refine ⟨?_, by have := List.all_eq_true.mp j12 t h; simpa using this⟩
        rcases List.mem_append.mp h with h | h
        · exact oks_mem o1 h
        · exact oks_mem o2 h
    -- the three lists
    refine ⟨_, .tup (vls_self clsT0), fun x0 H1 s1 l1 => ?_⟩
    obtain ⟨a0, xs0, rfl, g0, d0⟩ := tup_inv (l1.same nw_old)
    have d0 : Lds H1 xs0 wds0 := d0
    refine ⟨a0, rfl, ⟨_, SqT.of g0⟩, fun D hD => ?_⟩
    refine lc_tup (K := K) (a := a0) (xs := xs0) (fun k H' => Same H1 H' ∧ ∃ ws, H' D = some (.lst ws) ∧ Lds (hid H' D) ws ((wds0.take k).map (rowT true))) ⟨same_upd hD, [], upd_same, .nil⟩ (fun k H' _ ⟨sA, _⟩ => SqT.of (sA _ _ g0)) ?_ ?_
    · rintro k x H' hx ⟨sA, zs, gz, lz⟩
      obtain ⟨t, ht, lt⟩ := d0.at hx
      have hz : zs.length ≤ 900 := by
        rw [← lz.length, List.length_map]
        exact Nat.le_trans (List.length_take_le' _ _) (by decide)
      exact turn_rows (show 3 < 4 by decide) hD sA gz lz ht (lt.same fun b o e => hid_of (ne_of_none e hD) (sA _ _ e)) hz
    rintro H2 ⟨s2, zs0, gz0, lz0⟩
    rw [← d0.length, List.take_length] at lz0
    have f0 : H D = none := s1.free hD
    have lz0 := lz0.same hid_old
    have s02 := s1.trans s2
    have e0 : zs0.length = 6 := by rw [← lz0.length, List.length_map]; rfl
    clear d0 l1 g0
    refine ⟨_, rfl, _, .tup (vls_self clsT1), fun x0 H3 s3 l3 => ?_⟩
    obtain ⟨a1, xs1, rfl, g1, d1⟩ := tup_inv (l3.same nw_old)
    have d1 : Lds H3 xs1 wds1 := d1
    refine ⟨a1, rfl, ⟨_, SqT.of g1⟩, fun D1 hD1 => ?_⟩
    refine lc_tup (K := K) (a := a1) (xs := xs1) (fun k H' => Same H3 H' ∧ ∃ ws, H' D1 = some (.lst ws) ∧ Lds (hid H' D1) ws ((wds1.take k).map (rowT false))) ⟨same_upd hD1, [], upd_same, .nil⟩ (fun k H' _ ⟨sA, _⟩ => SqT.of (sA _ _ g1)) ?_ ?_
    · rintro k x H' hx ⟨sA, zs, gz, lz⟩
      obtain ⟨t, ht, lt⟩ := d1.at hx
      have hz : zs.length ≤ 900 := by
        rw [← lz.length, List.length_map]
        exact Nat.le_trans (List.length_take_le' _ _) (by decide)
      exact turn_rows (show 3 < 4 by decide) hD1 sA gz lz ht (lt.same fun b o e => hid_of (ne_of_none e hD1) (sA _ _ e)) hz
    rintro H4 ⟨s4, zs1, gz1, lz1⟩
    rw [← d1.length, List.take_length] at lz1
    have lz1 := lz1.same hid_old
    have e1 : zs1.length = 15 := by rw [← lz1.length, List.length_map]; rfl
    clear d1 l3 g1
    have s24 := s3.trans s4
    refine ⟨D, D1, _, _, rfl, rfl, s24 _ _ gz0, gz1, Nat.le_of_lt (small1000 (by omega)), fun r1 hr1 => ?_⟩
    have s5 := same_upd (o := .lst (zs0 ++ zs1)) hr1
    have g5 : upd H4 r1 (.lst (zs0 ++ zs1)) r1 = some (.lst (zs0 ++ zs1)) := upd_same
    generalize upd H4 r1 (.lst (zs0 ++ zs1)) = H5 at s5 g5
    have l5 := (lz0.same (s24.trans s5)).append (lz1.same s5)
    refine ⟨_, rfl, _, .tup (vls_self clsT2), fun x0 H6 s6 l6 => ?_⟩
    obtain ⟨a2, xs2, rfl, g2, d2⟩ := tup_inv (l6.same nw_old)
    have d2 : Lds H6 xs2 wds2 := d2
    refine ⟨a2, rfl, ⟨_, SqT.of g2⟩, fun D2 hD2 => ?_⟩
    refine lc_tup (K := K) (a := a2) (xs := xs2) (fun k H' => Same H6 H' ∧ ∃ ws, H' D2 = some (.lst ws) ∧ Lds (hid H' D2) ws ((wds2.take k).map (rowT false))) ⟨same_upd hD2, [], upd_same, .nil⟩ (fun k H' _ ⟨sA, _⟩ => SqT.of (sA _ _ g2)) ?_ ?_
    · rintro k x H' hx ⟨sA, zs, gz, lz⟩
      obtain ⟨t, ht, lt⟩ := d2.at hx
      have hz : zs.length ≤ 900 := by
        rw [← lz.length, List.length_map]
        exact Nat.le_trans (List.length_take_le' _ _) (by decide)
      exact turn_rows (show 1 < 4 by decide) hD2 sA gz lz ht (lt.same fun b o e => hid_of (ne_of_none e hD2) (sA _ _ e)) hz
    rintro H7 ⟨s7, zs2, gz2, lz2⟩
    rw [← d2.length, List.take_length] at lz2
    have lz2 := lz2.same hid_old
    have e2 : zs2.length = 8 := by rw [← lz2.length, List.length_map]; rfl
    clear d2 l6 g2
    have s57 := s6.trans s7
    refine ⟨r1, D2, _, _, rfl, rfl, s57 _ _ g5, gz2, Nat.le_of_lt (small1000 (by rw [List.length_append]; omega)), fun r2 hr2 => ?_⟩
    have s8 := same_upd (o := .lst (zs0 ++ zs1 ++ zs2)) hr2
    have g8 : upd H7 r2 (.lst (zs0 ++ zs1 ++ zs2)) r2 = some (.lst (zs0 ++ zs1 ++ zs2)) := upd_same
    generalize upd H7 r2 (.lst (zs0 ++ zs1 ++ zs2)) = H8 at s8 g8
    have s08 : Same H H8 := s02.trans (s24.trans (s5.trans (s57.trans s8)))
    have row : ∀ (k : Nat) (y : V), (zs0 ++ zs1 ++ zs2)[k]? = some y → ∃ (b : Bool) (q : Addr) (x : V) (t : T), y = .ref q ∧ H8 q = some (.tup [x, .bl b]) ∧ Laid H8 x t ∧ okT t = true ∧ wdT t = b := by
      intro k y hy
      have mk : ∀ (b : Bool) (t : T), Laid H8 y (rowT b t) → (b = true ∧ t ∈ wds0) ∨ (b = false ∧ t ∈ wds1 ++ wds2) → ∃ (b : Bool) (q : Addr) (x : V) (t : T), y = .ref q ∧ H8 q = some (.tup [x, .bl b]) ∧ Laid H8 x t ∧ okT t = true ∧ wdT t = b := by
        intro b t lt h
        obtain ⟨q, x, rfl, gq, lx⟩ := row_out lt
        obtain ⟨o, j⟩ := judged b t h
        exact ⟨b, q, x, t, rfl, gq, lx, o, j⟩
      have hm := List.mem_of_getElem? hy
      rcases List.mem_append.mp hm with hm | hm
      · rcases List.mem_append.mp hm with hm | hm
        · obtain ⟨i, hi⟩ := List.mem_iff_getElem?.mp hm
          obtain ⟨t, mt, lt⟩ := rows_at ((lz0.same (s24.trans s5)).same (s57.trans s8)) hi
          exact mk true t lt (.inl ⟨rfl, mt⟩)
        · obtain ⟨i, hi⟩ := List.mem_iff_getElem?.mp hm
          obtain ⟨t, mt, lt⟩ := rows_at ((lz1.same s5).same (s57.trans s8)) hi
          exact mk false t lt (.inr ⟨rfl, List.mem_append_left _ mt⟩)
      · obtain ⟨i, hi⟩ := List.mem_iff_getElem?.mp hm
        obtain ⟨t, mt, lt⟩ := rows_at (lz2.same s8) hi
        exact mk false t lt (.inr ⟨rfl, List.mem_append_right _ mt⟩)
    refine ⟨_, rfl, r2, rfl, ⟨_, SqL.of g8⟩, ?_⟩
    refine for_list (K := K) (a := r2) (xs := zs0 ++ zs1 ++ zs2) (fun k σ H' => ∃ v1 v2, σ = [some (.ref r2), v1, v2, none] ∧ Same H8 H') ⟨_, _, rfl, fun _ _ e => e⟩ (fun k σ H' _ ⟨_, _, _, sA⟩ => SqL.of (sA _ _ g8)) ?_ ?_
    · rintro k y σ H' hy ⟨v1, v2, rfl, sA⟩
      obtain ⟨b, q, x, t, rfl, gq, lx, o, j⟩ := row k y hy
      have wd : ∀ {H''}, Same H8 H'' → WdF K H'' x b := fun s => by
        have := wd_T (K := K) o (lx.same s)
        rw [j] at this
        exact this
      refine ⟨q, _, rfl, SqT.of (sA _ _ gq), rfl, _, _, rfl, _, _, rfl, rfl, ?_⟩
      refine ⟨_, rfl, ?_⟩
      dsimp only [tNil]
      refine (wd sA).sp ⟨_, rfl, _, _, rfl, .flat rfl, fun H9 s9 => ⟨true, rfl, iteF ?_⟩⟩
      refine ⟨_, rfl, rfl, ?_⟩
      dsimp only [tNil]
      refine (wd (sA.trans s9)).sp ⟨_, rfl, _, _, rfl, .flat rfl, fun HA sB => ⟨true, rfl, iteF ?_⟩⟩
      exact ⟨_, _, rfl, sA.trans (s9.trans sB)⟩
    · rintro σ H' ⟨v1, v2, rfl, sA⟩
      exact q H' (s08.trans sA)
end
end L2.K02
set_option Elab.async false
set_option linter.all false
set_option maxRecDepth 100000
set_option maxHeartbeats 4000000
namespace L2.K02
open PySem PySem.Spec PyProof.Rows L2.EV
/-! ### manners -/
abbrev sMR : Stmt := top 46
abbrev nMR : List Str := ["_law_good", "_law_rows", "_law_at", "_law_odd", "_law_value", "_law_due"]
theorem scMR : FnScope nMR [] (defScope sMR) := ⟨rfl, rfl, rfl, by decide +kernel, rfl, by decide +kernel, by decide +kernel⟩
def cT : T := .tup [.v (.str "coins"), .v (.int 1)]
def spotT (t : T) : Nat → List T
  | 0 => [t, .v (.str "carry"), .v (.str "out"), cT]
  | 1 => [.v (.str "in"), t, .v (.str "out"), cT]
  | _ => [.v (.str "in"), .v (.str "carry"), t, cT]
def goodT : T := .tup [.v (.str "in"), .v (.str "carry"), .v (.str "out"), cT]
def mo9 : List T := [.v (.str ""), .v (.str "A"), .v (.str "abcdefghi"), .v (.int 1), .v .non, .v (.bl true), .tup [.v (.str "in")], .lst [.v (.str "in")], .v (.str "a b")]
def mrow (k : Nat) (t : T) : T := rowT false (.tup (spotT t k))
def mA : Nat → List T
  | 0 => [rowT true goodT, rowT true (.tup [.v (.str "a"), .v (.str "a"), .v (.str "a"), .tup [.v (.str "fill"), .v (.int 3), .v (.int 3)]]), rowT true (.tup [.v (.str "in"), .v (.str "carry"), .v (.str "in"), .tup [.v (.str "coins"), .v (.int 0)]])]
  | k + 1 => mA k ++ mo9.map (mrow k)
def mB : List T := odds.map fun t => rowT false (.tup [.v (.str "in"), .v (.str "carry"), .v (.str "out"), t])
def mC : List T := [rowT false (.lst [.v (.str "in"), .v (.str "carry"), .v (.str "out"), cT]), rowT false (.tup [.v (.str "in"), .v (.str "carry"), .v (.str "out")]), rowT false (.tup [.v (.str "in"), .v (.str "carry"), .v (.str "out"), cT, .v (.int 1)]),
  rowT false (.tup [.v (.str "in"), .v (.str "carry"), .v (.str "out"), .v (.str "coins"), .v (.int 1)]), rowT false (.v .non), rowT false (.tup []), rowT false (.v (.str "in"))]
def mAll : List T := mA 3 ++ mB ++ mC
def jdM : T → Bool
  | .tup [t, .v (.bl b)] => okT t && (manT t == b)
  | _ => false
theorem mAll_ok : mAll.all jdM = true := by decide +kernel
theorem mA_len : ∀ k, k ≤ 3 → (mA k).length ≤ 30 := by decide +kernel
theorem jdM_inv {t : T} (h : jdM t = true) : ∃ (b : Bool) (u : T), t = rowT b u ∧ okT u = true ∧ manT u = b := by
  unfold jdM at h
  split at h
  · next u b =>
    obtain ⟨h1, h2⟩ := Bool.and_eq_true_iff.mp h
    exact ⟨b, u, rfl, h1, eq_of_beq h2⟩
  · cases h
/-- t + u -/
theorem catA {K : PySem.W.Frag} {H : Hp} {Q : VK} {a b : Addr} {xs ys : List V} (ha : H a = some (.tup xs)) (hb : H b = some (.tup ys)) (hz : xs.length + ys.length ≤ 900) (k : ∀ p H', Same H H' → H' p = some (.tup (xs ++ ys)) → Q (.ref p) H') : rCatA K (.ref a) (.ref b) H Q := by
  refine ⟨a, b, xs, ys, rfl, rfl, SqT.of ha, SqT.of hb, Nat.le_of_lt (small1000 (by omega)), fun e => ?_, fun _ e => ?_, fun _ _ p hp => k p _ (same_upd hp) upd_same⟩
  · exact k b H (fun _ _ e => e) (by rw [e]; exact hb)
  · exact k a H (fun _ _ e => e) (by rw [e, List.append_nil]; exact ha)
/-- four items, cut -/
theorem cut_lo (w x y z : V) (k : Nat) (hk : k < 3) : cutV [w, x, y, z] none (some (0 + (k : Int))) = [w, x, y, z].take k ∧ ¬ (HT.sIx 4 0 none = 0 ∧ HT.sIx 4 4 (some (0 + (k : Int))) = 4) := by
  match k, hk with
  | 0, _ => exact ⟨rfl, fun h => absurd (show (0 : Nat) = 4 from h.2) (by decide)⟩
  | 1, _ => exact ⟨rfl, fun h => absurd (show (1 : Nat) = 4 from h.2) (by decide)⟩
  | 2, _ => exact ⟨rfl, fun h => absurd (show (2 : Nat) = 4 from h.2) (by decide)⟩
theorem cut_hi (w x y z : V) (k : Nat) (hk : k < 3) : cutV [w, x, y, z] (some (0 + (k : Int) + 1)) none = [w, x, y, z].drop (k + 1) ∧ ¬ (HT.sIx 4 0 (some (0 + (k : Int) + 1)) = 0 ∧ HT.sIx 4 4 none = 4) := by
  match k, hk with
  | 0, _ => exact ⟨rfl, fun h => absurd (show (1 : Nat) = 0 from h.1) (by decide)⟩
  | 1, _ => exact ⟨rfl, fun h => absurd (show (2 : Nat) = 0 from h.1) (by decide)⟩
  | 2, _ => exact ⟨rfl, fun h => absurd (show (3 : Nat) = 0 from h.1) (by decide)⟩
theorem spot_laid {H : Hp} {r c : Addr} {x : V} {t : T} {k : Nat} (hk : k < 3) (hr : H r = some (.tup ([V.str "in", .str "carry", .str "out", .ref c].take k ++ [x] ++ [V.str "in", .str "carry", .str "out", .ref c].drop (k + 1)))) (hx : Laid H x t)
    (hc : Laid H (.ref c) cT) : Laid H (.ref r) (.tup (spotT t k)) := by
  match k, hk with
  | 0, _ => exact .tup hr (.cons hx (.cons (.v _) (.cons (.v _) (.cons hc .nil))))
  | 1, _ => exact .tup hr (.cons (.v _) (.cons hx (.cons (.v _) (.cons hc .nil))))
  | 2, _ => exact .tup hr (.cons (.v _) (.cons (.v _) (.cons hx (.cons hc .nil))))
theorem tup_hid {H : Hp} {D q : Addr} {xs ys : List V} (hD : H D = some (.lst xs)) (h : H q = some (.tup ys)) : hid H D q = some (.tup ys) := hid_of (fun z => by
  rw [z, hD] at h
  cases h) h
mutual
/-- tuples alone -/
def tuT : T → Bool
  | .v _ => true
  | .tup ts => tusT ts
  | _ => false
def tusT : List T → Bool
  | [] => true
  | t :: ts => tuT t && tusT ts
end
mutual
theorem tu_hid {H : Hp} {D : Addr} {ys : List V} (hD : H D = some (.lst ys)) : ∀ {x : V} {t : T}, Laid H x t → tuT t = true → Laid (hid H D) x t
  | _, _, .v x, _ => .v x
  | _, _, .tup h l, o => .tup (tup_hid hD h) (tus_hid hD l (by unfold tuT at o; exact o))
  | _, _, .lst _ _, o => by
    unfold tuT at o
    cases o
  | _, _, .dct _ _, o => by
    unfold tuT at o
    cases o
theorem tus_hid {H : Hp} {D : Addr} {ys : List V} (hD : H D = some (.lst ys)) : ∀ {xs : List V} {ts : List T}, Lds H xs ts → tusT ts = true → Lds (hid H D) xs ts
  | _, _, .nil, _ => .nil
  | _, _, .cons h l, o => by
    unfold tusT at o
    obtain ⟨o1, o2⟩ := Bool.and_eq_true_iff.mp o
    exact .cons (tu_hid hD h o1) (tus_hid hD l o2)
end
end L2.K02
set_option Elab.async false
set_option linter.all false
set_option maxRecDepth 100000
set_option maxHeartbeats 4000000
namespace L2.K02
open PySem PySem.Spec PyProof.Rows L2.EV
section
variable {P : Program} {w : World} {K : PySem.W.Frag} {mg : Str → Option Value} {base : Heap} {f : Addr} {fd : FuncData}
theorem mr_tail (GE : ∀ n, Got P w K mg base (n + 1) "_law_exact" pEx (spEx n)) (GM : Got P w K mg base 4 "is_manner" ["value"] (spMF K)) (KM : GotK P w K mg base CX0 4 "is_manner" ["value"] ["value"] (fun {_} l => l) (spMF K)) (mLi : mg "list" = none)
    {cdv : Value} {A : Around} {outer : List Env} {s : Shared} {H0 : Hp} {E : XK} (hr : Room 4 (A.deeper (envOfC "_law_manners_right" (defScope sMR) s.heap.objs.size f cdv))) :
    ∃ tt, PSs (cxOf CX0 P w K mg base nMR "_law_manners_right" (defScope sMR) f cdv A outer s H0 E).nox ((defBody sMR).drop 4) tt ∧ ∀ (Q : VK) (ga c r6 : Addr) (v2 v3 : Option V) (zs : List V) (H6 : Hp),
      H6 ga = some (.tup [.str "in", .str "carry", .str "out", .ref c]) → Laid H6 (.ref c) cT → H6 r6 = some (.lst zs) → Lds H6 zs (mA 3 ++ mB) → zs.length ≤ 200 → (∀ H', Same H6 H' → Q (.bl true) H') →
      tt { nx := fun _ H' => Q .non H', rt := Q } [some (.ref ga), some (.ref r6), v2, v3, none, none] H6 := by
  refine ⟨_, (pss_cons (ps_set (i := 1) scMR.nd rfl (Or.inl rfl) (pe_op op_cat (pv 1) (pe_lst (pa_cons (pe_tup (pa_cons (pe_callTy call_list_of (by rfl) mLi (by decide +kernel) (pa_cons (pv 0) pa_nil)) (pa_cons pe_bl pa_nil)))
        (pa_cons (pe_tup (pa_cons (pe_slice sl_tupA (pv 0) po_none (po_some pe_int)) (pa_cons pe_bl pa_nil))) (pa_cons (pe_tup (pa_cons (pe_op op_catA (pv 0) (pe_tup (pa_cons pe_int pa_nil))) (pa_cons pe_bl pa_nil)))
        (pa_cons (pe_tup (pa_cons (pe_op op_catA (pe_slice sl_tupA (pv 0) po_none (po_some pe_int)) (pe_ix ix_tup (pv 0) pe_int (fun _ _ => rfl))) (pa_cons pe_bl pa_nil))) (pa_cons (pl_tup (pla_cons pl_non (pla_cons pl_bl pla_nil))) (pa_cons (pl_tup (pla_cons (pl_tup pla_nil) (pla_cons pl_bl pla_nil))) (pa_cons (pl_tup (pla_cons pl_str (pla_cons pl_bl pla_nil))) pa_nil))))))))))
      (pss_cons (ps_for PassesOwn.never rfl (pi_list (pv 1)) (pg_tup rfl (pgs_cons (pg_name (i := 4) scMR.nd rfl (Or.inl rfl)) (pgs_cons (pg_name (i := 5) scMR.nd rfl (Or.inl rfl)) pgs_nil)))
        (pss_one (ps_if (PW.pt (pw_or (pt_not (pt_val (pe_got (GE 1) hr (pa_cons (pe_got GM hr (pa_cons (pv 4) pa_nil)) (pa_cons (pv 5) pa_nil))))) (pw_or1 (pt_not (pt_val (pe_got (GE 1) hr (pa_cons (pe_gotK KM hr pass0 (pk_cons (pv 4) pk_nil)) (pa_cons (pv 5) pa_nil)))))))) (pss_one (ps_ret pe_bl)) pss_nil)))
      (pss_one (ps_ret pe_bl)))), ?_⟩
  intro Q ga c r6 v2 v3 zs H6 G6 lc g6 d6 lz q
  have c3 : ¬ (HT.sIx 4 0 none = 0 ∧ HT.sIx 4 4 (some 3) = 4) := fun z => absurd (show (3 : Nat) = 4 from z.2) (by decide)
  refine ⟨_, rfl, ?_⟩
  -- list(good)
  refine ⟨_, rfl, ga, _, rfl, .inr (SqT.of G6), fun q7 h7 => ⟨(by show 2 ≤ sizeLine; decide), fun r7 hr7 => ?_⟩⟩
  obtain ⟨H7, e7, s67, m1⟩ : ∃ H7, H7 = upd (upd H6 q7 (.lst [.str "in", .str "carry", .str "out", .ref c])) r7 (.tup [.ref q7, .bl false]) ∧ Same H6 H7 ∧ Laid H7 (.ref r7) (rowT false (.lst [.v (.str "in"), .v (.str "carry"), .v (.str "out"), cT])) := by
    have s7 := same_upd (o := .lst [.str "in", .str "carry", .str "out", .ref c]) h7
    have s7' := same_upd (o := .tup [.ref q7, .bl false]) hr7
    exact ⟨_, rfl, s7.trans s7', .tup upd_same (.cons (.lst (s7' _ _ upd_same) (.cons (.v _) (.cons (.v _) (.cons (.v _) (.cons (lc.same (s7.trans s7')) .nil))))) (.cons (.v _) .nil))⟩
  rw [← e7]
  clear e7 hr7 h7
  -- good[:3]
  refine ⟨_, rfl, _, rfl, ga, _, rfl, SqT.of (s67 _ _ G6), fun z => absurd z c3, fun _ q8 h8 => ⟨(by show 2 ≤ sizeLine; decide), fun r8 hr8 => ?_⟩⟩
  obtain ⟨H8, e8, s78, m2⟩ : ∃ H8, H8 = upd (upd H7 q8 (.tup (cutV [V.str "in", .str "carry", .str "out", .ref c] none (some 3)))) r8 (.tup [.ref q8, .bl false]) ∧ Same H7 H8 ∧ Laid H8 (.ref r8) (rowT false (.tup [.v (.str "in"), .v (.str "carry"), .v (.str "out")])) := by
    have s8 := same_upd (o := .tup [V.str "in", .str "carry", .str "out"]) h8
    have s8' := same_upd (o := .tup [.ref q8, .bl false]) hr8
    exact ⟨_, rfl, s8.trans s8', .tup upd_same (.cons (.tup (s8' _ _ upd_same) (.cons (.v _) (.cons (.v _) (.cons (.v _) .nil)))) (.cons (.v _) .nil))⟩
  rw [← e8]
  clear e8 hr8 h8
  have s68 := s67.trans s78
  -- good + (1,)
  refine ⟨_, rfl, (by show 1 ≤ sizeLine; decide), fun q9 h9 => ?_⟩
  have s9 := same_upd (o := .tup [V.int 1]) h9
  have g9 : upd H8 q9 (.tup [V.int 1]) q9 = some (.tup [V.int 1]) := upd_same
  generalize upd H8 q9 (.tup [V.int 1]) = H9 at s9 g9
  have s69 := s68.trans s9
  refine catA (s69 _ _ G6) g9 (by show 4 + 1 ≤ 900; decide) fun qa Ha sa ga' => ⟨(by show 2 ≤ sizeLine; decide), fun rb hb => ?_⟩
  obtain ⟨Hb, eb, sab, m3⟩ : ∃ Hb, Hb = upd Ha rb (.tup [.ref qa, .bl false]) ∧ Same Ha Hb ∧ Laid Hb (.ref rb) (rowT false (.tup [.v (.str "in"), .v (.str "carry"), .v (.str "out"), cT, .v (.int 1)])) := by
    have s8' := same_upd (o := .tup [.ref qa, .bl false]) hb
    exact ⟨_, rfl, s8', .tup upd_same (.cons (.tup (s8' _ _ ga') (.cons (.v _) (.cons (.v _) (.cons (.v _) (.cons (lc.same (s69.trans (sa.trans s8'))) (.cons (.v _) .nil)))))) (.cons (.v _) .nil))⟩
  rw [← eb]
  clear eb hb
  have s6b := s69.trans (sa.trans sab)
  -- good[:3] + good[3]
  refine ⟨_, rfl, _, rfl, ga, _, rfl, SqT.of (s6b _ _ G6), fun z => absurd z c3, fun _ qc hc => ?_⟩
  obtain ⟨Hc, ec, sbc, gc⟩ : ∃ Hc, Hc = upd Hb qc (.tup (cutV [V.str "in", .str "carry", .str "out", .ref c] none (some 3))) ∧ Same Hb Hc ∧ Hc qc = some (.tup [V.str "in", .str "carry", .str "out"]) := ⟨_, rfl, same_upd hc, upd_same⟩
  rw [← ec]
  clear ec hc
  have s6c := s6b.trans sbc
  refine ⟨_, rfl, ga, _, _, _, rfl, rfl, SqT.of (s6c _ _ G6), atI_nat (j := 3) rfl, ?_⟩
  obtain ⟨cc, gcc⟩ : ∃ xs, H6 c = some (.tup xs) ∧ xs = [.str "coins", .int 1] := by
    obtain ⟨c', xs, e, g, l⟩ := tup_inv lc
    cases e
    match l with
    | .cons (.v _) (.cons (.v _) .nil) => exact ⟨_, g, rfl⟩
  obtain ⟨gcc, rfl⟩ := gcc
  refine catA gc (s6c _ _ gcc) (by show 3 + 2 ≤ 900; decide) fun qd Hd sd gd => ⟨(by show 2 ≤ sizeLine; decide), fun re he => ?_⟩
  obtain ⟨He, ee, sde, m4⟩ : ∃ He, He = upd Hd re (.tup [.ref qd, .bl false]) ∧ Same Hd He ∧ Laid He (.ref re) (rowT false (.tup [.v (.str "in"), .v (.str "carry"), .v (.str "out"), .v (.str "coins"), .v (.int 1)])) := by
    have s8' := same_upd (o := .tup [.ref qd, .bl false]) he
    exact ⟨_, rfl, s8', .tup upd_same (.cons (.tup (s8' _ _ gd) (.cons (.v _) (.cons (.v _) (.cons (.v _) (.cons (.v _) (.cons (.v _) .nil)))))) (.cons (.v _) .nil))⟩
  rw [← ee]
  clear ee he
  have s6e := s6c.trans (sd.trans sde)
  refine ⟨_, .tup (.cons (.v _) (.cons (.v _) .nil)), fun y5 H15 s15 m5 => ?_⟩
  refine ⟨_, .tup (.cons (.tup .nil) (.cons (.v _) .nil)), fun y6 H16 s16 m6 => ?_⟩
  refine ⟨_, .tup (.cons (.v _) (.cons (.v _) .nil)), fun y7 H17 s17 m7 => ?_⟩
  refine ⟨(by show 7 ≤ sizeLine; decide), fun l7 hl7 => ?_⟩
  obtain ⟨H18, e18, s18, g18⟩ : ∃ H18, H18 = upd H17 l7 (.lst [.ref r7, .ref r8, .ref rb, .ref re, y5, y6, y7]) ∧ Same H17 H18 ∧ H18 l7 = some (.lst [.ref r7, .ref r8, .ref rb, .ref re, y5, y6, y7]) := ⟨_, rfl, same_upd hl7, upd_same⟩
  rw [← e18]
  clear e18 hl7
  have z6 := s17.trans s18
  have z5 := s16.trans z6
  have z4 := s15.trans z5
  have zb := sbc.trans (sd.trans (sde.trans z4))
  have z8 := s9.trans (sa.trans (sab.trans zb))
  have z7 := s78.trans z8
  have d7 : Lds H18 [.ref r7, .ref r8, .ref rb, .ref re, y5, y6, y7] mC := .cons (m1.same z7) (.cons (m2.same z8) (.cons (m3.same zb) (.cons (m4.same z4) (.cons ((m5.same nw_old).same z5) (.cons ((m6.same nw_old).same z6) (.cons ((m7.same nw_old).same s18) .nil))))))
  have s618 := s6e.trans z4
  refine ⟨r6, l7, _, _, rfl, rfl, s618 _ _ g6, g18, Nat.le_of_lt (small1000 (by show zs.length + 7 ≤ 1000; omega)), fun lr hlr => ?_⟩
  obtain ⟨H19, e19, s19, g19⟩ : ∃ H19, H19 = upd H18 lr (.lst (zs ++ [.ref r7, .ref r8, .ref rb, .ref re, y5, y6, y7])) ∧ Same H18 H19 ∧ H19 lr = some (.lst (zs ++ [.ref r7, .ref r8, .ref rb, .ref re, y5, y6, y7])) := ⟨_, rfl, same_upd hlr, upd_same⟩
  rw [← e19]
  clear e19 hlr
  have s619 := s618.trans s19
  have all : Lds H19 (zs ++ [.ref r7, .ref r8, .ref rb, .ref re, y5, y6, y7]) mAll := (d6.same s619).append (d7.same s19)
  clear m1 m2 m3 m4 m5 m6 m7 d7
  generalize zs ++ [V.ref r7, .ref r8, .ref rb, .ref re, y5, y6, y7] = rows at g19 all
  refine ⟨_, rfl, lr, rfl, ⟨_, SqL.of g19⟩, ?_⟩
  refine for_list (K := K) (a := lr) (xs := rows) (fun k σ H' => ∃ v4 v5, σ = [some (.ref ga), some (.ref lr), v2, v3, v4, v5] ∧ Same H19 H') ⟨_, _, rfl, fun _ _ e => e⟩ (fun k σ H' _ ⟨_, _, _, sA⟩ => SqL.of (sA _ _ g19)) ?_ ?_
  · rintro k y σ H' hy ⟨v4, v5, rfl, sA⟩
    obtain ⟨t, ht, lt⟩ := all.at hy
    obtain ⟨b, u, rfl, ou, ju⟩ := jdM_inv (List.all_eq_true.mp mAll_ok t (List.mem_of_getElem? ht))
    obtain ⟨qr, x, rfl, gq, lx⟩ := row_out lt
    have mn : ∀ {H''}, Same H19 H'' → ManF K H'' x b := fun s => by
      have := man_T (K := K) ou (lx.same s)
      rw [ju] at this
      exact this
    refine ⟨qr, _, rfl, SqT.of (sA _ _ gq), rfl, _, _, rfl, _, _, rfl, rfl, ?_⟩
    refine ⟨_, rfl, x, b, rfl, mn sA, fun H8 s8 => ⟨_, rfl, _, _, rfl, .flat rfl, fun H9 s9 => ⟨true, rfl, iteF ?_⟩⟩⟩
    refine ⟨_, rfl, rfl, x, b, rfl, mn (sA.trans (s8.trans s9)), fun H10 s10 => ⟨_, rfl, _, _, rfl, .flat rfl, fun H11 s11 => ⟨true, rfl, iteF ?_⟩⟩⟩
    exact ⟨_, _, rfl, sA.trans (s8.trans (s9.trans (s10.trans s11)))⟩
  · rintro σ H' ⟨v4, v5, rfl, sA⟩
    exact q H' (s619.trans sA)
end
end L2.K02
set_option Elab.async false
set_option linter.all false
set_option maxRecDepth 100000
set_option maxHeartbeats 4000000
namespace L2.K02
open PySem PySem.Spec PyProof.Rows L2.EV
section
variable {P : Program} {w : World} {K : PySem.W.Frag} {mg : Str → Option Value} {base : Heap} {f : Addr} {fd : FuncData}
theorem ok_mr (F : FnP K "_law_manners_right" sMR f fd) (GE : ∀ n, Got P w K mg base (n + 1) "_law_exact" pEx (spEx n)) (GM : Got P w K mg base 4 "is_manner" ["value"] (spMF K)) (KM : GotK P w K mg base CX0 4 "is_manner" ["value"] ["value"] (fun {_} l => l) (spMF K))
    (GO : Got P w K mg base 1 "_law_odd_effects" [] spOE) (mR : mg "range" = none) (mLi : mg "list" = none) : FnOk P w K mg base CX0 5 f fd [] spTrue := by
  refine F.ok scMR (fun vs H Q E h => ?_) (fun cdv A outer s H vs Q E hr h => ?_)
  · obtain ⟨rfl, _⟩ := h
    rfl
  · obtain ⟨rfl, q⟩ := h
    have hr1 := hr.mono (show 1 ≤ 4 by decide)
    obtain ⟨tt, ht, kt⟩ := mr_tail (P := P) (w := w) (K := K) (mg := mg) (base := base) (f := f) GE GM KM mLi (cdv := cdv) (A := A) (outer := outer) (s := s) (H0 := H) (E := E) hr
    refine ⟨_, PSs.nox (pss_cons (ps_set (i := 0) scMR.nd rfl (by first | exact Or.inl rfl | exact Or.inr rfl) (pl_tup (pla_cons pl_str (pla_cons pl_str (pla_cons pl_str (pla_cons (pl_tup (pla_cons pl_str (pla_cons pl_int pla_nil))) pla_nil))))))
      (pss_cons (ps_set (i := 1) scMR.nd rfl (Or.inl rfl) (pl_lst (pla_cons (pl_tup (pla_cons (pl_v 0) (pla_cons pl_bl pla_nil))) (pla_cons (pl_tup (pla_cons (pl_tup (pla_cons pl_str (pla_cons pl_str (pla_cons pl_str (pla_cons (pl_tup (pla_cons pl_str (pla_cons pl_int (pla_cons pl_int pla_nil)))) pla_nil))))) (pla_cons pl_bl pla_nil))) (pla_cons (pl_tup (pla_cons (pl_tup (pla_cons pl_str (pla_cons pl_str (pla_cons pl_str (pla_cons (pl_tup (pla_cons pl_str (pla_cons pl_int pla_nil))) pla_nil))))) (pla_cons pl_bl pla_nil))) pla_nil)))))
      (pss_cons (ps_for PassesOwn.never rfl (pi_range1 (by rfl) mR (pa_cons pe_int pa_nil)) (pg_name (i := 2) scMR.nd rfl (Or.inl rfl))
        (pss_one (ps_for PassesOwn.never rfl (pi_tup (pl_tup (pla_cons pl_str (pla_cons pl_str (pla_cons pl_str (pla_cons pl_int (pla_cons pl_non (pla_cons pl_bl (pla_cons (pl_tup (pla_cons pl_str pla_nil)) (pla_cons (pl_lst (pla_cons pl_str pla_nil)) (pla_cons pl_str pla_nil))))))))))) (pg_name (i := 3) scMR.nd rfl (Or.inl rfl))
          (pss_one (ps_expr (pe_bm PySem.F.plainAttrs_list PySem.F.slot_list_append PySem.F.type_list_append mt_append (pv 1) (pa_cons (pe_tup (pa_cons (pe_op op_catA (pe_op op_catA (pe_slice sl_tupA (pv 0) po_none (po_some (pv 2))) (pe_tup (pa_cons (pv 3) pa_nil)))
            (pe_slice sl_tupA (pv 0) (po_some (pe_op op_add (pv 2) pe_int)) po_none)) (pa_cons pe_bl pa_nil))) pa_nil)))))))
      (pss_cons (ps_set (i := 1) scMR.nd rfl (Or.inl rfl) (pe_op op_cat (pv 1) (pe_lc (own := [("_law_odd", 3)]) (g := gName 3) (tt := tYes) (te := tTup (tCons (tOp (rCatA K) (tSl (rSlA K) (tVar 0) tNoPart (tPart (tC (.int 3)))) (tTup (tCons (tVar 3) tNil))) (tCons (tC (.bl false)) tNil))) (by rfl) scMR.nd (pi_list (pe_got0 GO hr1))
        (blkOk_by (own := [("_law_odd", 3)]) (N := nMR) (sc := defScope sMR) (by decide +kernel)) (fun _ _ _ _ _ => pg_name (i := 3) scMR.nd rfl (by first | exact Or.inl rfl | exact Or.inr rfl)) (fun _ _ _ _ _ => pts_nil)
        (fun _ _ _ _ _ => pe_tup (pa_cons (pe_op op_catA (pe_slice sl_tupA (pv 0) po_none (po_some pe_int)) (pe_tup (pa_cons (pv 3) pa_nil))) (pa_cons pe_bl pa_nil))))))
      ht)))), ?_⟩
    -- a good manner
    refine ⟨_, .tup (.cons (.v _) (.cons (.v _) (.cons (.v _) (.cons (.tup (.cons (.v _) (.cons (.v _) .nil))) .nil)))), fun x1 H1 s1 l1 => ?_⟩
    obtain ⟨ga, xs1, rfl, gg, d1⟩ := tup_inv (l1.same nw_old)
    obtain ⟨c, rfl, lc⟩ : ∃ c : Addr, xs1 = [.str "in", .str "carry", .str "out", .ref c] ∧ Laid H1 (.ref c) cT := by
      match d1 with
      | .cons (.v _) (.cons (.v _) (.cons (.v _) (.cons l4 .nil))) =>
        obtain ⟨c, ys, rfl, gc, dc⟩ := tup_inv l4
        exact ⟨c, rfl, .tup gc dc⟩
    have lgood : Laid H1 (.ref ga) goodT := .tup gg (.cons (.v _) (.cons (.v _) (.cons (.v _) (.cons lc .nil))))
    clear d1 l1
    -- the first rows
    refine ⟨_, .lst (.cons (.tup (.cons (.sl rfl) (.cons (.v _) .nil))) (.cons (.tup (.cons (.tup (.cons (.v _) (.cons (.v _) (.cons (.v _) (.cons (.tup (.cons (.v _) (.cons (.v _) (.cons (.v _) .nil)))) .nil))))) (.cons (.v _) .nil)))
      (.cons (.tup (.cons (.tup (.cons (.v _) (.cons (.v _) (.cons (.v _) (.cons (.tup (.cons (.v _) (.cons (.v _) .nil))) .nil))))) (.cons (.v _) .nil))) .nil))), fun x2 H2 s2 l2 => ?_⟩
    obtain ⟨D, zs0, rfl, gD, d2⟩ := lst_inv l2
    have hD : H1 D = none := (nw_some gD).1
    have gD := (nw_some gD).2
    have gh : ∀ {H' : Hp}, Same H1 H' → ∀ {x : V} {t : T}, Laid H1 x t → Laid (hid H' D) x t := by
      intro H' s x t l
      exact l.same fun b o e => hid_of (ne_of_none e hD) (s _ _ e)
    have d2 : Lds (hid H2 D) zs0 (mA 0) := by
      have e := tus_hid gD (d2.same nw_old) rfl
      match e with
      | .cons r1 r => exact .cons (row_in (gh s2 lgood) r1) r
    clear l2
    refine ⟨3, rfl, by decide, by decide, ?_⟩
    refine for_range (lo := 0) (n := 3) (fun i σ H' => ∃ v2 v3 zs, σ = [some (.ref ga), some (.ref D), v2, v3, none, none] ∧ Same H1 H' ∧ H' D = some (.lst zs) ∧ Lds (hid H' D) zs (mA i)) ⟨none, none, zs0, rfl, s2, gD, d2⟩ ?_ ?_
    · rintro i σ H3 hi ⟨v2, v3, zs, rfl, s3, g3, d3⟩
      refine ⟨_, .tup (vls_self (ts := mo9) (by decide +kernel)), fun x4 H4 s4 l4 => ?_⟩
      obtain ⟨a4, xs4, rfl, g4, d4⟩ := tup_inv (l4.same (nw_hid g3))
      have d4 : Lds (hid H4 D) xs4 mo9 := d4
      have g4' := (hid_some g4).2
      refine ⟨a4, rfl, ⟨_, SqT.of g4'⟩, ?_⟩
      refine for_tup (K := K) (a := a4) (xs := xs4) (fun k σ H' => ∃ v3 zs, σ = [some (.ref ga), some (.ref D), some (.int (0 + (i : Int))), v3, none, none] ∧ Same H1 H' ∧ Same (hid H4 D) (hid H' D) ∧ H' D = some (.lst zs) ∧ Lds (hid H' D) zs (mA i ++ (mo9.take k).map (mrow i)))
        ⟨v3, zs, rfl, s3.trans s4, fun _ _ e => e, s4 _ _ g3, by rw [List.take_zero, List.map_nil, List.append_nil]; exact d3.same (hid_mono s4)⟩ (fun k σ H' _ ⟨_, _, _, _, sA, _, _⟩ => SqT.of (hid_some (sA _ _ g4)).2) ?_ ?_
      · rintro k x σ H5 hx ⟨v3, ws, rfl, s5, z5, g5, d5⟩
        obtain ⟨t, ht, lt⟩ := d4.at hx
        have lt5 := lt.same z5
        have lw : ws.length ≤ 60 := by
          have h1 := mA_len i (by omega)
          have h2 := d5.length
          rw [List.length_append, List.length_map] at h2
          have h3 : (mo9.take k).length ≤ 9 := List.length_take_le' _ _
          omega
        have G5 := s5 _ _ gg
        obtain ⟨cl1, cl2⟩ := cut_lo (.str "in") (.str "carry") (.str "out") (.ref c) i hi
        obtain ⟨ch1, ch2⟩ := cut_hi (.str "in") (.str "carry") (.str "out") (.ref c) i hi
        refine ⟨_, rfl, .inl ⟨rfl, _, SqL.of g5⟩, ?_⟩
        refine ⟨_, rfl, _, rfl, _, rfl, ga, _, rfl, SqT.of G5, fun z => absurd z cl2, fun _ q6 h6 => ?_⟩
        rw [cl1]
        have s6 := same_upd (o := .tup ([V.str "in", .str "carry", .str "out", .ref c].take i)) h6
        have g6 : upd H5 q6 (.tup ([V.str "in", .str "carry", .str "out", .ref c].take i)) q6 = some (.tup ([V.str "in", .str "carry", .str "out", .ref c].take i)) := upd_same
        generalize upd H5 q6 (.tup ([V.str "in", .str "carry", .str "out", .ref c].take i)) = H6 at s6 g6
        refine ⟨_, rfl, (by show 1 ≤ sizeLine; decide), fun q7 h7 => ?_⟩
        have s7 := same_upd (o := .tup [x]) h7
        have g7 : upd H6 q7 (.tup [x]) q7 = some (.tup [x]) := upd_same
        generalize upd H6 q7 (.tup [x]) = H7 at s7 g7
        refine catA (s7 _ _ g6) g7 (by show _ + 1 ≤ 900; have := List.length_take_le' i [V.str "in", .str "carry", .str "out", .ref c]; have e4 : [V.str "in", .str "carry", .str "out", .ref c].length = 4 := rfl; omega) fun q8 H8 s8 g8 => ?_
        refine ⟨_, rfl, _, rfl, _, _, rfl, rfl, _, rfl, ga, _, rfl, SqT.of (s8 _ _ (s7 _ _ (s6 _ _ G5))), fun z => absurd z ch2, fun _ q9 h9 => ?_⟩
        rw [ch1]
        have s9 := same_upd (o := .tup ([V.str "in", .str "carry", .str "out", .ref c].drop (i + 1))) h9
        have g9 : upd H8 q9 (.tup ([V.str "in", .str "carry", .str "out", .ref c].drop (i + 1))) q9 = some (.tup ([V.str "in", .str "carry", .str "out", .ref c].drop (i + 1))) := upd_same
        generalize upd H8 q9 (.tup ([V.str "in", .str "carry", .str "out", .ref c].drop (i + 1))) = H9 at s9 g9
        refine catA (s9 _ _ g8) g9 (by
          rw [List.length_append, List.length_take, List.length_drop]
          have e4 : [V.str "in", .str "carry", .str "out", .ref c].length = 4 := rfl
          show min i _ + 1 + _ ≤ 900
          omega) fun qa Ha sa gqa => ?_
        refine ⟨(by show 2 ≤ sizeLine; decide), fun qb hb => ?_⟩
        have sb := same_upd (o := .tup [.ref qa, .bl false]) hb
        have gb : upd Ha qb (.tup [.ref qa, .bl false]) qb = some (.tup [.ref qa, .bl false]) := upd_same
        generalize upd Ha qb (.tup [.ref qa, .bl false]) = Hb at sb gb
        have s5b : Same H5 Hb := s6.trans (s7.trans (s8.trans (s9.trans (sa.trans sb))))
        have gD' := s5b _ _ g5
        refine ⟨D, ws, .ref qb, rfl, rfl, gD', small1000 (by omega), ?_⟩
        have sp : Laid (hid Hb D) (.ref qa) (.tup (spotT t i)) := spot_laid hi (tup_hid gD' (sb _ _ gqa)) (lt5.same (hid_mono s5b)) (gh (s5.trans s5b) lc)
        refine ⟨_, _, rfl, fun b o e => ?_, ?_, upd_same, ?_⟩
        · rw [upd_ne (ne_of_none e hD)]
          exact s5b _ _ (s5 _ _ e)
        · rw [hid_upd]
          exact fun b o e => hid_mono s5b _ _ (z5 _ _ e)
        · rw [hid_upd, List.take_succ, ht, List.map_append, ← List.append_assoc]
          exact (d5.same (hid_mono s5b)).append (.cons (row_in sp (.tup (tup_hid gD' gb) (.cons (.v _) (.cons (.v _) .nil)))) .nil)
      · rintro σ H5 ⟨v3, ws, rfl, s5, z5, g5, d5⟩
        rw [← d4.length, List.take_length] at d5
        exact ⟨_, v3, ws, rfl, s5, g5, d5⟩
    rintro σ H3 ⟨v2, v3, zs, rfl, s3, g3, d3⟩
    have d3 := d3.same hid_old
    have l3 : zs.length ≤ 30 := by
      have := mA_len 3 (by decide)
      have := d3.length
      omega
    -- rows of odd effects
    have G3 := s3 _ _ gg
    refine ⟨_, rfl, rfl, fun lo xso H4 s4 n4 g4 d4 => ⟨lo, rfl, ⟨_, SqL.of g4⟩, fun D4 hD4 => ?_⟩⟩
    have c3 : ¬ (HT.sIx 4 0 none = 0 ∧ HT.sIx 4 4 (some 3) = 4) := fun z => absurd (show (3 : Nat) = 4 from z.2) (by decide)
    have l4 : xso.length ≤ 100 := by
      rw [← d4.length]
      decide +kernel
    refine lc_list (K := K) (a := lo) (xs := xso) (fun k H' => Same H4 H' ∧ ∃ ws, H' D4 = some (.lst ws) ∧ Lds (hid H' D4) ws ((odds.take k).map fun t => rowT false (.tup [.v (.str "in"), .v (.str "carry"), .v (.str "out"), t]))) ⟨same_upd hD4, [], upd_same, .nil⟩ (fun k H' _ ⟨sA, _⟩ => SqL.of (sA _ _ g4)) ?_ ?_
    · rintro k x H5 hx ⟨s5, ws, g5, d5⟩
      obtain ⟨t, ht, lt⟩ := d4.at hx
      have lt5 : Laid (hid H5 D4) x t := lt.same fun b o e => hid_of (ne_of_none e hD4) (s5 _ _ e)
      have lw : ws.length ≤ 100 := by
        rw [← d5.length, List.length_map]
        exact Nat.le_trans (List.length_take_le' _ _) (by decide +kernel)
      refine ⟨rfl, ?_⟩
      dsimp only [tYes]
      rw [if_pos rfl]
      refine ⟨_, rfl, _, rfl, ga, _, rfl, SqT.of (s5 _ _ (s4 _ _ G3)), fun z => absurd z c3, fun _ q6 h6 => ?_⟩
      have s6 := same_upd (o := .tup [V.str "in", .str "carry", .str "out"]) h6
      have g6 : upd H5 q6 (.tup [V.str "in", .str "carry", .str "out"]) q6 = some (.tup [V.str "in", .str "carry", .str "out"]) := upd_same
      change tTup _ _ (upd H5 q6 (.tup [V.str "in", .str "carry", .str "out"])) _
      generalize upd H5 q6 (.tup [V.str "in", .str "carry", .str "out"]) = H6 at s6 g6
      refine ⟨_, rfl, (by show 1 ≤ sizeLine; decide), fun q7 h7 => ?_⟩
      have s7 := same_upd (o := .tup [x]) h7
      have g7 : upd H6 q7 (.tup [x]) q7 = some (.tup [x]) := upd_same
      generalize upd H6 q7 (.tup [x]) = H7 at s7 g7
      refine catA (s7 _ _ g6) g7 (by show 3 + 1 ≤ 900; decide) fun q8 H8 s8 g8 => ?_
      refine ⟨(by show 2 ≤ sizeLine; decide), fun qb hb => ?_⟩
      have sb := same_upd (o := .tup [.ref q8, .bl false]) hb
      have gb : upd H8 qb (.tup [.ref q8, .bl false]) qb = some (.tup [.ref q8, .bl false]) := upd_same
      generalize upd H8 qb (.tup [.ref q8, .bl false]) = Hb at sb gb
      have s5b : Same H5 Hb := s6.trans (s7.trans (s8.trans sb))
      have gD' := s5b _ _ g5
      refine ⟨ws, gD', small1000 (by omega), fun b o e => ?_, _, upd_same, ?_⟩
      · rw [upd_ne (ne_of_none e hD4)]
        exact s5b _ _ (s5 _ _ e)
      · rw [hid_upd, List.take_succ, ht, List.map_append]
        have sp : Laid (hid Hb D4) (.ref q8) (.tup [.v (.str "in"), .v (.str "carry"), .v (.str "out"), t]) := .tup (tup_hid gD' (sb _ _ g8)) (.cons (.v _) (.cons (.v _) (.cons (.v _) (.cons (lt5.same (hid_mono s5b)) .nil))))
        exact (d5.same (hid_mono s5b)).append (.cons (row_in sp (.tup (tup_hid gD' gb) (.cons (.v _) (.cons (.v _) .nil)))) .nil)
    rintro H5 ⟨s5, ws, g5, d5⟩
    rw [← d4.length, List.take_length] at d5
    have d5 : Lds H5 ws mB := d5.same hid_old
    have l5 : ws.length ≤ 100 := by
      rw [← d5.length]
      decide +kernel
    have s35 := s4.trans s5
    refine ⟨D, D4, _, _, rfl, rfl, s35 _ _ g3, g5, Nat.le_of_lt (small1000 (by omega)), fun r6 hr6 => ?_⟩
    have s6 := same_upd (o := .lst (zs ++ ws)) hr6
    have g6 : upd H5 r6 (.lst (zs ++ ws)) r6 = some (.lst (zs ++ ws)) := upd_same
    generalize upd H5 r6 (.lst (zs ++ ws)) = H6 at s6 g6
    have d6 : Lds H6 (zs ++ ws) (mA 3 ++ mB) := (d3.same (s35.trans s6)).append (d5.same s6)
    have s16 : Same H1 H6 := s3.trans (s35.trans s6)
    exact kt Q ga c r6 _ _ _ H6 (s16 _ _ gg) (lc.same s16) g6 d6 (by rw [List.length_append]; omega) fun H' s' => q H' (s1.trans (s16.trans s'))
end
end L2.K02
set_option Elab.async false
set_option linter.all false
set_option maxRecDepth 100000
set_option maxHeartbeats 4000000
namespace L2.K02
open PySem PySem.Spec PyProof.Rows L2.EV
def itT : T → List T
  | .tup ts => ts
  | .lst ts => ts
  | _ => []
def lastT : T := .lst [.tup [.v (.str "in"), .v (.str "carry"), .v (.str "in"), .tup [.v (.str "coins"), .v (.int 1)]]]
def oddAll : List T := odds ++ itT lastT
def jdO (t : T) : Bool := okT t && (!effT t && veryT t)
theorem oddAll_ok : oddAll.all jdO = true := by decide +kernel
def rX0 (x : V) : T := .lst [.tup [.v (.str "worth"), .lst [.v x, .v (.int (-1)), .v .non]], .tup [.v (.str "beats"), .lst [.v x, .v .non]], .tup [.v (.str "parting"), .lst [.v x, .v x]], .tup [.v (.str "judge"), .lst [.v x, .v (.int 5), .v .non]]]
def rX1 (x : V) : T := .lst [.tup [.v (.str "parting"), .lst [.v x, .tup [.v (.str "coins"), .v (.int 0)]]], .tup [.v (.str "parting"), .lst [.v x, .v .non]], .tup [.v (.str "beats"), .lst [.v x, .tup [.v (.str "coins"), .v (.int 3)]]], .tup [.v (.str "worth"), .lst [.v x, .v (.int 0), .v (.int 0)]]]
def rX2 (x : V) : T := .lst [.tup [.v (.str "judge"), .lst [.v x, .tup [.v (.str "coins"), .v (.int 0)], .tup [.v (.int 0), .v (.int 0)]]], .tup [.v (.str "beats"), .lst [.tup [.v (.str "coins"), .v (.int 0)], .v x]], .tup [.v (.str "parting"), .lst [.tup [.v (.str "fill"), .v (.int 0), .v (.int 0)], .v x]], .tup [.v (.str "judge"), .lst [.tup [.v (.str "coins"), .v (.int 0)], .v x, .tup [.v (.int 0), .v (.int 0)]]]]
def odd8 : T := .tup [.v (.int (-1)), .v .non, .v (.bl true), .v (.bl false), .v (.str "1"), .lst [.v (.int 1)], .tup [.v (.int 1)], .dct [] []]
def jd8 (t : T) : Bool := okT t && (!cntT t && veryT t)
theorem odd8_ok : (itT odd8).all jd8 = true := by decide +kernel
def thX (x : V) : T := .tup [.lst [.tup [.v (.str "coins"), .v (.int 1)], .v x, .v .non], .lst [.tup [.v (.str "fill"), .v (.int 1), .v (.int 1)], .v x, .v (.int 0)], .lst [.tup [.v (.str "coins"), .v (.int 1)], .v (.int 0), .v x], .lst [.tup [.v (.str "fill"), .v (.int 0), .v (.int 0)], .v (.int (10 ^ (29 : Int).toNat)), .v x]]
/-- a promise of each of some trees -/
def Each (p : T → Prop) (ts : List T) : Prop := ∀ t ∈ ts, p t
theorem Each.nil {p : T → Prop} : Each p [] := fun t h => by cases h
theorem Each.cons {p : T → Prop} {t : T} {ts : List T} (h : p t) (r : Each p ts) : Each p (t :: ts) := fun u hu => by
  rcases List.mem_cons.mp hu with rfl | hu
  · exact h
  · exact r u hu
theorem Each.app {p : T → Prop} {ts us : List T} (h : Each p ts) (r : Each p us) : Each p (ts ++ us) := fun u hu => by
  rcases List.mem_append.mp hu with hu | hu
  · exact h u hu
  · exact r u hu
/-- a row of the effects' errors: the error's thing is x -/
def RowE (K : PySem.W.Frag) (H : Hp) (x y : V) : Prop := ∃ (q : Addr) (z : Str) (l : Addr), y = .ref q ∧ H q = some (.tup [.str z, .ref l]) ∧ ∀ (H' : Hp) (Q : VK) (E : XK), Same H H' → EffF K H' x false → Res H' Q "effect" x → spTd K [.str z, .ref l] H' Q E
theorem row_split {H : Hp} {y : V} {z : Str} {ts : List T} (h : Laid H y (.tup [.v (.str z), .lst ts])) : ∃ (q l : Addr) (xs : List V), y = .ref q ∧ H q = some (.tup [.str z, .ref l]) ∧ H l = some (.lst xs) ∧ Lds H xs ts := by
  obtain ⟨q, ys, rfl, g, d⟩ := tup_inv h
  match d with
  | .cons (.v _) (.cons l1 .nil) =>
    obtain ⟨l, xs, rfl, gl, dl⟩ := lst_inv l1
    exact ⟨q, l, xs, rfl, g, gl, dl⟩
theorem row_e1 {K : PySem.W.Frag} {H : Hp} {x y : V} {z : Str} {tb : T} {tcs : List T} (h : Laid H y (.tup [.v (.str z), .lst (.v x :: tb :: tcs)])) (hz : (z = "worth" ∧ tcs ≠ []) ∨ (z = "judge" ∧ tcs ≠ []) ∨ z = "beats" ∨ z = "parting") : RowE K H x y := by
  obtain ⟨q, l, xs, rfl, g, gl, d⟩ := row_split h
  match d with
  | .cons (.v _) (.cons (x := b) l2 (xs := cs) d3) =>
    refine ⟨q, z, l, rfl, g, fun H' Q E s he res => ⟨z, l, x, b, cs, rfl, s _ _ gl, ?_⟩⟩
    rcases hz with ⟨rfl, hn⟩ | ⟨rfl, hn⟩ | rfl | rfl
    · match d3, hn with
      | .nil, hn => exact absurd rfl hn
      | .cons (x := u) (xs := r) _ _, _ => exact .inl ⟨rfl, u, r, rfl, .inl ⟨he, res⟩⟩
    · refine .inr (.inl ⟨rfl, fun e => ?_, .inl ⟨he, res⟩⟩)
      rw [e] at d3
      cases d3
      exact hn rfl
    · exact .inr (.inr (.inl ⟨rfl, .inl ⟨he, res⟩⟩))
    · exact .inr (.inr (.inr ⟨rfl, .inl ⟨he, res⟩⟩))
theorem row_e2 {K : PySem.W.Frag} {H : Hp} {x y : V} {z : Str} {ta : T} {tcs : List T} (h : Laid H y (.tup [.v (.str z), .lst (ta :: .v x :: tcs)])) (oa : okT ta = true) (ea : effT ta = true) (hz : (z = "judge" ∧ tcs ≠ []) ∨ z = "beats" ∨ z = "parting") : RowE K H x y := by
  obtain ⟨q, l, xs, rfl, g, gl, d⟩ := row_split h
  match d with
  | .cons (x := a) l1 (.cons (.v _) (xs := cs) d3) =>
    refine ⟨q, z, l, rfl, g, fun H' Q E s he res => ⟨z, l, a, x, cs, rfl, s _ _ gl, ?_⟩⟩
    have e1 : EffF K H' a true := by
      have := eff_T (K := K) oa (l1.same s)
      rw [ea] at this
      exact this
    rcases hz with ⟨rfl, hn⟩ | rfl | rfl
    · refine .inr (.inl ⟨rfl, fun e => ?_, .inr ⟨e1, he, res⟩⟩)
      rw [e] at d3
      cases d3
      exact hn rfl
    · exact .inr (.inr (.inl ⟨rfl, .inr ⟨e1, he, res⟩⟩))
    · exact .inr (.inr (.inr ⟨rfl, .inr ⟨e1, he, res⟩⟩))
theorem rows_e {K : PySem.W.Frag} {H : Hp} (x : V) : Each (fun t => ∀ y, Laid H y t → RowE K H x y) (itT (rX0 x) ++ itT (rX1 x) ++ itT (rX2 x)) :=
  .app (.app (.cons (fun y h => row_e1 h (.inl ⟨rfl, fun z => by cases z⟩)) (.cons (fun y h => row_e1 h (.inr (.inr (.inl rfl)))) (.cons (fun y h => row_e1 h (.inr (.inr (.inr rfl)))) (.cons (fun y h => row_e1 h (.inr (.inl ⟨rfl, fun z => by cases z⟩))) .nil))))
    (.cons (fun y h => row_e1 h (.inr (.inr (.inr rfl)))) (.cons (fun y h => row_e1 h (.inr (.inr (.inr rfl)))) (.cons (fun y h => row_e1 h (.inr (.inr (.inl rfl)))) (.cons (fun y h => row_e1 h (.inl ⟨rfl, fun z => by cases z⟩)) .nil)))))
    (.cons (fun y h => row_e1 h (.inr (.inl ⟨rfl, fun z => by cases z⟩))) (.cons (fun y h => row_e2 h (by decide +kernel) (by decide +kernel) (.inr (.inl rfl))) (.cons (fun y h => row_e2 h (by decide +kernel) (by decide +kernel) (.inr (.inr rfl)))
      (.cons (fun y h => row_e2 h (by decide +kernel) (by decide +kernel) (.inl ⟨rfl, fun z => by cases z⟩)) .nil))))
/-- a list of things of worth: the error's thing is x -/
def RowC (K : PySem.W.Frag) (H : Hp) (x y : V) : Prop := ∃ l : Addr, y = .ref l ∧ ∀ (H' : Hp) (Q : VK) (E : XK), Same H H' → Cnt K H' x false → Res H' Q "count" x → spTd K [.str "worth", .ref l] H' Q E
theorem row_c1 {K : PySem.W.Frag} {H : Hp} {x y : V} {ta tc : T} (h : Laid H y (.lst [ta, .v x, tc])) (oa : okT ta = true) (ea : effT ta = true) : RowC K H x y := by
  obtain ⟨l, xs, rfl, gl, d⟩ := lst_inv h
  match d with
  | .cons (x := a) l1 (.cons (.v _) (.cons (x := c) l3 .nil)) =>
    refine ⟨l, rfl, fun H' Q E s hc res => ⟨"worth", l, a, x, [c], rfl, s _ _ gl, .inl ⟨rfl, c, [], rfl, .inr (.inl ⟨?_, hc, res⟩)⟩⟩⟩
    have := eff_T (K := K) oa (l1.same s)
    rw [ea] at this
    exact this
theorem row_c2 {K : PySem.W.Frag} {H : Hp} {x y : V} {ta tb : T} (h : Laid H y (.lst [ta, tb, .v x])) (oa : okT ta = true) (ea : effT ta = true) (ob : okT tb = true) (eb : cntT tb = true) : RowC K H x y := by
  obtain ⟨l, xs, rfl, gl, d⟩ := lst_inv h
  match d with
  | .cons (x := a) l1 (.cons (x := b) l2 (.cons (.v _) .nil)) =>
    refine ⟨l, rfl, fun H' Q E s hc res => ⟨"worth", l, a, b, [x], rfl, s _ _ gl, .inl ⟨rfl, x, [], rfl, .inr (.inr ⟨?_, ?_, hc, res⟩)⟩⟩⟩
    · have := eff_T (K := K) oa (l1.same s)
      rw [ea] at this
      exact this
    · have := cnt_T (K := K) ob (l2.same s)
      rw [eb] at this
      exact this
theorem rows_c {K : PySem.W.Frag} {H : Hp} (x : V) : Each (fun t => ∀ y, Laid H y t → RowC K H x y) (itT (thX x)) :=
  .cons (fun y h => row_c1 h (by decide +kernel) (by decide +kernel)) (.cons (fun y h => row_c1 h (by decide +kernel) (by decide +kernel)) (.cons (fun y h => row_c2 h (by decide +kernel) (by decide +kernel) (by decide +kernel) (by decide +kernel))
    (.cons (fun y h => row_c2 h (by decide +kernel) (by decide +kernel) (by decide +kernel) (by decide +kernel)) .nil)))
abbrev sRR : Stmt := top 47
abbrev nRR : List Str := ["_law_some", "_law_odd", "_law_rows", "_law_way", "_law_things", "_law_effect"]
theorem scRR : FnScope nRR [] (defScope sRR) := ⟨rfl, rfl, rfl, by decide +kernel, rfl, by decide +kernel, by decide +kernel⟩
theorem valX {x : V} {σ : St} (h : σ[1]? = some (some x)) : ∀ {t u : T}, Val [none, some x] t u → Val σ t u := by
  intro t u v
  have sl : ∀ {i : Nat} {y : V}, ([none, some x] : St)[i]? = some (some y) → σ[i]? = some (some y) := fun {i y} e => by
    match i, e with
    | 0, e => cases e
    | 1, e => cases e; exact h
    | i + 2, e => cases e
  exact Val.rec (motive_1 := fun t u _ => Val σ t u) (motive_2 := fun ts us _ => Vls σ ts us) (fun x => .v x) (fun e => .sl (sl e)) (fun _ _ a b => .op a b) (fun _ a => .tup a) (fun _ a => .lst a) (fun _ a => .dct a) .nil (fun _ _ a b => .cons a b) v
section
variable {P : Program} {w : World} {K : PySem.W.Frag} {mg : Str → Option Value} {base : Heap} {f : Addr} {fd : FuncData}
theorem ok_rr (F : FnP K "_law_refused_right" sRR f fd) (GO : Got P w K mg base 1 "_law_odd_effects" [] spOE) (GA : Got P w K mg base 1 "_law_all_effects" [] spAE) (GI : Got P w K mg base 3 "is_effect" ["value"] (spEF K)) (KI : GotK P w K mg base CX0 3 "is_effect" ["value"] ["value"] (fun {_} l => l) (spEF K))
    (GT : Got P w K mg base 5 "_law_told" pTd (spTd K)) (GV : Got P w K mg base 8 "_law_very" pVy spVy) : FnOk P w K mg base CX0 9 f fd [] spTrue := by
  refine F.ok scRR (fun vs H Q E h => ?_) (fun cdv A outer s H vs Q E hr h => ?_)
  · obtain ⟨rfl, _⟩ := h
    rfl
  · obtain ⟨rfl, q⟩ := h
    have hu := hr.units
    refine ⟨_, PSs.nox (pss_cons (ps_set (i := 0) scRR.nd rfl (Or.inl rfl) (pe_op op_cat (pe_got0 GO hr) (pl_lst (pla_cons (pl_tup (pla_cons pl_str (pla_cons pl_str (pla_cons pl_str (pla_cons (pl_tup (pla_cons pl_str (pla_cons pl_int pla_nil))) pla_nil))))) pla_nil))))
      (pss_cons (ps_for PassesOwn.never rfl (pi_list (pv 0)) (pg_name (i := 1) scRR.nd rfl (Or.inl rfl))
        (pss_cons (ps_if (PW.pt (pw_or (pt_cmpR op_notBl (pe_got GI hr (pa_cons (pv 1) pa_nil)) pe_bl (nomark _)) (pw_or1 (pt_cmpR op_notBl (pe_gotK KI hr pass0 (pk_cons (pv 1) pk_nil)) pe_bl (nomark _))))) (pss_one (ps_ret pe_bl)) pss_nil)
        (pss_cons (ps_set (i := 2) scRR.nd rfl (Or.inl rfl) (pl_lst (pla_cons (pl_tup (pla_cons pl_str (pla_cons (pl_lst (pla_cons (pl_v 1) (pla_cons pl_neg (pla_cons pl_non pla_nil)))) pla_nil))) (pla_cons (pl_tup (pla_cons pl_str (pla_cons (pl_lst (pla_cons (pl_v 1) (pla_cons pl_non pla_nil))) pla_nil))) (pla_cons (pl_tup (pla_cons pl_str (pla_cons (pl_lst (pla_cons (pl_v 1) (pla_cons (pl_v 1) pla_nil))) pla_nil))) (pla_cons (pl_tup (pla_cons pl_str (pla_cons (pl_lst (pla_cons (pl_v 1) (pla_cons pl_int (pla_cons pl_non pla_nil)))) pla_nil))) pla_nil))))))
        (pss_cons (ps_set (i := 2) scRR.nd rfl (Or.inl rfl) (pe_op op_cat (pv 2) (pl_lst (pla_cons (pl_tup (pla_cons pl_str (pla_cons (pl_lst (pla_cons (pl_v 1) (pla_cons (pl_tup (pla_cons pl_str (pla_cons pl_int pla_nil))) pla_nil))) pla_nil))) (pla_cons (pl_tup (pla_cons pl_str (pla_cons (pl_lst (pla_cons (pl_v 1) (pla_cons pl_non pla_nil))) pla_nil))) (pla_cons (pl_tup (pla_cons pl_str (pla_cons (pl_lst (pla_cons (pl_v 1) (pla_cons (pl_tup (pla_cons pl_str (pla_cons pl_int pla_nil))) pla_nil))) pla_nil))) (pla_cons (pl_tup (pla_cons pl_str (pla_cons (pl_lst (pla_cons (pl_v 1) (pla_cons pl_int (pla_cons pl_int pla_nil)))) pla_nil))) pla_nil)))))))
        (pss_cons (ps_set (i := 2) scRR.nd rfl (Or.inl rfl) (pe_op op_cat (pv 2) (pl_lst (pla_cons (pl_tup (pla_cons pl_str (pla_cons (pl_lst (pla_cons (pl_v 1) (pla_cons (pl_tup (pla_cons pl_str (pla_cons pl_int pla_nil))) (pla_cons (pl_tup (pla_cons pl_int (pla_cons pl_int pla_nil))) pla_nil)))) pla_nil))) (pla_cons (pl_tup (pla_cons pl_str (pla_cons (pl_lst (pla_cons (pl_tup (pla_cons pl_str (pla_cons pl_int pla_nil))) (pla_cons (pl_v 1) pla_nil))) pla_nil))) (pla_cons (pl_tup (pla_cons pl_str (pla_cons (pl_lst (pla_cons (pl_tup (pla_cons pl_str (pla_cons pl_int (pla_cons pl_int pla_nil)))) (pla_cons (pl_v 1) pla_nil))) pla_nil))) (pla_cons (pl_tup (pla_cons pl_str (pla_cons (pl_lst (pla_cons (pl_tup (pla_cons pl_str (pla_cons pl_int pla_nil))) (pla_cons (pl_v 1) (pla_cons (pl_tup (pla_cons pl_int (pla_cons pl_int pla_nil))) pla_nil)))) pla_nil))) pla_nil)))))))
        (pss_one (ps_for PassesOwn.never rfl (pi_list (pv 2)) (pg_tup rfl (pgs_cons (pg_name (i := 3) scRR.nd rfl (Or.inl rfl)) (pgs_cons (pg_name (i := 4) scRR.nd rfl (Or.inl rfl)) pgs_nil)))
          (pss_one (ps_if (pt_not (pt_val (pe_got GV hr (pa_cons (pe_got GT hr (pa_cons (pv 3) (pa_cons (pv 4) pa_nil))) (pa_cons pe_str (pa_cons (pv 1) pa_nil)))))) (pss_one (ps_ret pe_bl)) pss_nil)))))))))
      (pss_cons (ps_for PassesOwn.never rfl (pi_tup (pl_tup (pla_cons pl_neg (pla_cons pl_non (pla_cons pl_bl (pla_cons pl_bl (pla_cons pl_str (pla_cons (pl_lst (pla_cons pl_int pla_nil)) (pla_cons (pl_tup (pla_cons pl_int pla_nil)) (pla_cons pl_d0 pla_nil)))))))))) (pg_name (i := 1) scRR.nd rfl (Or.inl rfl))
        (pss_one (ps_for PassesOwn.never rfl (pi_tup (pl_tup (pla_cons (pl_lst (pla_cons (pl_tup (pla_cons pl_str (pla_cons pl_int pla_nil))) (pla_cons (pl_v 1) (pla_cons pl_non pla_nil)))) (pla_cons (pl_lst (pla_cons (pl_tup (pla_cons pl_str (pla_cons pl_int (pla_cons pl_int pla_nil)))) (pla_cons (pl_v 1) (pla_cons pl_int pla_nil)))) (pla_cons (pl_lst (pla_cons (pl_tup (pla_cons pl_str (pla_cons pl_int pla_nil))) (pla_cons pl_int (pla_cons (pl_v 1) pla_nil)))) (pla_cons (pl_lst (pla_cons (pl_tup (pla_cons pl_str (pla_cons pl_int (pla_cons pl_int pla_nil)))) (pla_cons pl_pow (pla_cons (pl_v 1) pla_nil)))) pla_nil)))))) (pg_name (i := 4) scRR.nd rfl (Or.inl rfl))
          (pss_one (ps_if (pt_not (pt_val (pe_got GV hr (pa_cons (pe_got GT hr (pa_cons pe_str (pa_cons (pv 4) pa_nil))) (pa_cons pe_str (pa_cons (pv 1) pa_nil)))))) (pss_one (ps_ret pe_bl)) pss_nil)))))
      (pss_one (ps_ret (pe_cmpR (op_eqD hu) (pe_lc (own := [("_law_effect", 5)]) (g := gName 5) (tt := tTest (tOp rNotB (tCall (spEF K) [] E0 (tCons (tVar 5) tNil)) (tC (.bl true)))) (by rfl) scRR.nd (pi_list (pe_got0 GA hr))
        (blkOk_by (own := [("_law_effect", 5)]) (N := nRR) (sc := defScope sRR) (by decide +kernel)) (fun _ _ _ _ _ => pg_name (i := 5) scRR.nd rfl (by first | exact Or.inl rfl | exact Or.inr rfl))
        (fun _ _ _ _ _ => pts_one (pt_cmpR op_notBl (pe_got GI hr (pa_cons (pv 5) pa_nil)) pe_bl (nomark _))) (fun _ _ _ _ _ => pv 5)) (pe_lst pa_nil) (nomark _))))))), ?_⟩
    -- odd effects, one after the other
    refine ⟨rfl, fun lo xso H1 s1 n1 g1 d1 => ?_⟩
    refine ⟨_, val_self (t := lastT) (by decide +kernel), fun x2 H2 s2 l2 => ?_⟩
    obtain ⟨a2, ys, rfl, g2, d2⟩ := lst_inv (l2.same nw_old)
    have d12 := (d1.same s2).append d2
    have len12 : (xso ++ ys).length ≤ 100 := by
      rw [← d12.length]
      decide +kernel
    rw [List.length_append] at len12
    refine ⟨lo, a2, _, _, rfl, rfl, s2 _ _ g1, g2, Nat.le_of_lt (small1000 (by omega)), fun r3 h3 => ?_⟩
    obtain ⟨H3, e3, s3, g3⟩ : ∃ H3, H3 = upd H2 r3 (.lst (xso ++ ys)) ∧ Same H2 H3 ∧ H3 r3 = some (.lst (xso ++ ys)) := ⟨_, rfl, same_upd h3, upd_same⟩
    rw [← e3]
    clear e3 h3
    have d3 : Lds H3 (xso ++ ys) oddAll := d12.same s3
    have s03 : Same H H3 := s1.trans (s2.trans s3)
    clear d1 d2 d12 l2
    generalize xso ++ ys = some' at g3 d3
    refine ⟨_, rfl, r3, rfl, ⟨_, SqL.of g3⟩, ?_⟩
    refine for_list (K := K) (a := r3) (xs := some') (fun k σ H' => ∃ v1 v2 v3 v4, σ = [some (.ref r3), v1, v2, v3, v4, none] ∧ Same H3 H') ⟨_, _, _, _, rfl, fun _ _ e => e⟩ (fun k σ H' _ ⟨_, _, _, _, _, sA⟩ => SqL.of (sA _ _ g3)) ?_ ?_
    · rintro k x σ H4 hx ⟨v1, v2, v3, v4, rfl, s4⟩
      obtain ⟨t, ht, lt⟩ := d3.at hx
      have lt := lt.same s4
      have jt := List.all_eq_true.mp oddAll_ok t (List.mem_of_getElem? ht)
      obtain ⟨ot, jt⟩ := Bool.and_eq_true_iff.mp jt
      obtain ⟨et, vt⟩ := Bool.and_eq_true_iff.mp jt
      have et : effT t = false := by simpa using et
      have ef : ∀ {H'}, Same H4 H' → EffF K H' x false := fun s => by
        have := eff_T (K := K) ot (lt.same s)
        rw [et] at this
        exact this
      refine ⟨_, rfl, x, false, rfl, ef (fun _ _ e => e), fun H5 s5 => ⟨false, false, rfl, rfl, _, rfl, iteF ?_⟩⟩
      refine ⟨_, rfl, rfl, x, false, rfl, ef s5, fun H6 s6 => ⟨false, false, rfl, rfl, _, rfl, iteF ?_⟩⟩
      have s46 := s5.trans s6
      refine ⟨rX0 x, ?_, fun x7 H7 s7 l7 => ?_⟩
      · exact .lst (.cons (.tup (.cons (.v _) (.cons (.lst (.cons (.sl rfl) (.cons (.v _) (.cons (.v _) .nil)))) .nil))) (.cons (.tup (.cons (.v _) (.cons (.lst (.cons (.sl rfl) (.cons (.v _) .nil))) .nil))) (.cons (.tup (.cons (.v _) (.cons (.lst (.cons (.sl rfl) (.cons (.sl rfl) .nil))) .nil)))
          (.cons (.tup (.cons (.v _) (.cons (.lst (.cons (.sl rfl) (.cons (.v _) (.cons (.v _) .nil)))) .nil))) .nil))))
      obtain ⟨a7, ws7, rfl, g7, d7⟩ := lst_inv (l7.same nw_old)
      refine ⟨_, rfl, rX1 x, ?_, fun x8 H8 s8 l8 => ?_⟩
      · exact .lst (.cons (.tup (.cons (.v _) (.cons (.lst (.cons (.sl rfl) (.cons (.tup (.cons (.v _) (.cons (.v _) .nil))) .nil))) .nil))) (.cons (.tup (.cons (.v _) (.cons (.lst (.cons (.sl rfl) (.cons (.v _) .nil))) .nil)))
          (.cons (.tup (.cons (.v _) (.cons (.lst (.cons (.sl rfl) (.cons (.tup (.cons (.v _) (.cons (.v _) .nil))) .nil))) .nil))) (.cons (.tup (.cons (.v _) (.cons (.lst (.cons (.sl rfl) (.cons (.v _) (.cons (.v _) .nil)))) .nil))) .nil))))
      obtain ⟨a8, ws8, rfl, g8, d8⟩ := lst_inv (l8.same nw_old)
      have e7 : ws7.length = 4 := d7.length.symm
      have e8 : ws8.length = 4 := d8.length.symm
      refine ⟨a7, a8, _, _, rfl, rfl, s8 _ _ g7, g8, Nat.le_of_lt (small1000 (by omega)), fun r9 h9 => ?_⟩
      obtain ⟨H9, e9, s9, g9⟩ : ∃ H9, H9 = upd H8 r9 (.lst (ws7 ++ ws8)) ∧ Same H8 H9 ∧ H9 r9 = some (.lst (ws7 ++ ws8)) := ⟨_, rfl, same_upd h9, upd_same⟩
      rw [← e9]
      clear e9 h9
      refine ⟨_, rfl, rX2 x, ?_, fun x10 H10 s10 l10 => ?_⟩
      · exact .lst (.cons (.tup (.cons (.v _) (.cons (.lst (.cons (.sl rfl) (.cons (.tup (.cons (.v _) (.cons (.v _) .nil))) (.cons (.tup (.cons (.v _) (.cons (.v _) .nil))) .nil)))) .nil))) (.cons (.tup (.cons (.v _) (.cons (.lst (.cons (.tup (.cons (.v _) (.cons (.v _) .nil))) (.cons (.sl rfl) .nil))) .nil)))
          (.cons (.tup (.cons (.v _) (.cons (.lst (.cons (.tup (.cons (.v _) (.cons (.v _) (.cons (.v _) .nil)))) (.cons (.sl rfl) .nil))) .nil))) (.cons (.tup (.cons (.v _) (.cons (.lst (.cons (.tup (.cons (.v _) (.cons (.v _) .nil))) (.cons (.sl rfl) (.cons (.tup (.cons (.v _) (.cons (.v _) .nil))) .nil)))) .nil))) .nil))))
      obtain ⟨a10, ws10, rfl, g10, d10⟩ := lst_inv (l10.same nw_old)
      have e10 : ws10.length = 4 := d10.length.symm
      refine ⟨r9, a10, _, _, rfl, rfl, s10 _ _ g9, g10, Nat.le_of_lt (small1000 (by rw [List.length_append]; omega)), fun rb hb => ?_⟩
      obtain ⟨Hb, eb, sb, gb⟩ : ∃ Hb, Hb = upd H10 rb (.lst (ws7 ++ ws8 ++ ws10)) ∧ Same H10 Hb ∧ Hb rb = some (.lst (ws7 ++ ws8 ++ ws10)) := ⟨_, rfl, same_upd hb, upd_same⟩
      rw [← eb]
      clear eb hb
      have rowsL : Lds Hb (ws7 ++ ws8 ++ ws10) (itT (rX0 x) ++ itT (rX1 x) ++ itT (rX2 x)) := ((d7.same (s8.trans (s9.trans (s10.trans sb)))).append (d8.same (s9.trans (s10.trans sb)))).append (d10.same sb)
      have s4b : Same H4 Hb := s46.trans (s7.trans (s8.trans (s9.trans (s10.trans sb))))
      clear l7 l8 l10 d7 d8 d10
      generalize ws7 ++ ws8 ++ ws10 = rows at gb rowsL
      refine ⟨_, rfl, rb, rfl, ⟨_, SqL.of gb⟩, ?_⟩
      refine for_list (K := K) (a := rb) (xs := rows) (fun j σ H' => ∃ v3 v4, σ = [some (.ref r3), some x, some (.ref rb), v3, v4, none] ∧ Same Hb H') ⟨_, _, rfl, fun _ _ e => e⟩ (fun j σ H' _ ⟨_, _, _, sA⟩ => SqL.of (sA _ _ gb)) ?_ ?_
      · rintro j y σ Hc hy ⟨w3, w4, rfl, sc⟩
        obtain ⟨u, hu', lu⟩ := rowsL.at hy
        obtain ⟨qq, z, ll, rfl, gq, told⟩ := rows_e (K := K) x u (List.mem_of_getElem? hu') y lu
        refine ⟨qq, _, rfl, SqT.of (sc _ _ gq), rfl, _, _, rfl, _, _, rfl, rfl, ?_⟩
        refine ⟨_, rfl, _, rfl, ?_⟩
        refine told Hc _ E sc (ef (s4b.trans sc)) fun pp Hd sd gp => ?_
        refine ⟨_, rfl, pp, "effect", x, t, rfl, gp, lt.same (s4b.trans (sc.trans sd)), vt, fun He se => ⟨true, rfl, iteF ?_⟩⟩
        exact ⟨_, _, rfl, sc.trans (sd.trans se)⟩
      · rintro σ Hc ⟨w3, w4, rfl, sc⟩
        exact ⟨_, _, _, _, rfl, s4.trans (s4b.trans sc)⟩
    rintro σ H4 ⟨v1, v2, v3, v4, rfl, s4⟩
    have s04 := s03.trans s4
    clear g3 d3 g1 g2
    -- odd counts
    refine ⟨_, val_self (t := odd8) (by decide +kernel), fun x5 H5 s5 l5 => ?_⟩
    obtain ⟨a5, xs5, rfl, g5, d5⟩ := tup_inv (l5.same nw_old)
    have d5 : Lds H5 xs5 (itT odd8) := d5
    clear l5
    refine ⟨a5, rfl, ⟨_, SqT.of g5⟩, ?_⟩
    refine for_tup (K := K) (a := a5) (xs := xs5) (fun k σ H' => ∃ v1 v4, σ = [some (.ref r3), v1, v2, v3, v4, none] ∧ Same H5 H') ⟨_, _, rfl, fun _ _ e => e⟩ (fun k σ H' _ ⟨_, _, _, sA⟩ => SqT.of (sA _ _ g5)) ?_ ?_
    · rintro k x σ H6 hx ⟨v1, v4, rfl, s6⟩
      obtain ⟨t, ht, lt⟩ := d5.at hx
      have lt := lt.same s6
      have jt := List.all_eq_true.mp odd8_ok t (List.mem_of_getElem? ht)
      obtain ⟨ot, jt⟩ := Bool.and_eq_true_iff.mp jt
      obtain ⟨et, vt⟩ := Bool.and_eq_true_iff.mp jt
      have et : cntT t = false := by simpa using et
      have ct : ∀ {H'}, Same H6 H' → Cnt K H' x false := fun s => by
        have := cnt_T (K := K) ot (lt.same s)
        rw [et] at this
        exact this
      refine ⟨thX x, ?_, fun x7 H7 s7 l7 => ?_⟩
      · exact .tup (.cons (.lst (.cons (.tup (.cons (.v _) (.cons (.v _) .nil))) (.cons (.sl rfl) (.cons (.v _) .nil)))) (.cons (.lst (.cons (.tup (.cons (.v _) (.cons (.v _) (.cons (.v _) .nil)))) (.cons (.sl rfl) (.cons (.v _) .nil))))
          (.cons (.lst (.cons (.tup (.cons (.v _) (.cons (.v _) .nil))) (.cons (.v _) (.cons (.sl rfl) .nil)))) (.cons (.lst (.cons (.tup (.cons (.v _) (.cons (.v _) (.cons (.v _) .nil)))) (.cons (.v _) (.cons (.sl rfl) .nil)))) .nil))))
      obtain ⟨a7, ws7, rfl, g7, d7⟩ := tup_inv (l7.same nw_old)
      have d7 : Lds H7 ws7 (itT (thX x)) := d7
      clear l7
      refine ⟨a7, rfl, ⟨_, SqT.of g7⟩, ?_⟩
      refine for_tup (K := K) (a := a7) (xs := ws7) (fun j σ H' => ∃ v4, σ = [some (.ref r3), some x, v2, v3, v4, none] ∧ Same H7 H') ⟨_, rfl, fun _ _ e => e⟩ (fun j σ H' _ ⟨_, _, sA⟩ => SqT.of (sA _ _ g7)) ?_ ?_
      · rintro j y σ Hc hy ⟨w4, rfl, sc⟩
        obtain ⟨u, hu', lu⟩ := d7.at hy
        obtain ⟨ll, rfl, told⟩ := rows_c (K := K) x u (List.mem_of_getElem? hu') y lu
        refine ⟨_, rfl, ?_⟩
        refine told Hc _ E sc (ct (s7.trans sc)) fun pp Hd sd gp => ?_
        refine ⟨_, rfl, pp, "count", x, t, rfl, gp, lt.same (s7.trans (sc.trans sd)), vt, fun He se => ⟨true, rfl, iteF ?_⟩⟩
        exact ⟨_, rfl, sc.trans (sd.trans se)⟩
      · rintro σ Hc ⟨w4, rfl, sc⟩
        exact ⟨_, _, rfl, s6.trans (s7.trans sc)⟩
    rintro σ H6 ⟨v1, v4, rfl, s6⟩
    have s06 := s04.trans (s5.trans s6)
    -- all effects are effects
    refine ⟨rfl, fun la xsa H7 s7 n7 g7 d7 => ⟨la, rfl, ⟨_, SqL.of g7⟩, fun D hD => ?_⟩⟩
    refine lc_list (K := K) (a := la) (xs := xsa) (fun k H' => Same H7 H' ∧ H' D = some (.lst [])) ⟨same_upd hD, upd_same⟩ (fun k H' _ ⟨sA, _⟩ => SqL.of (sA _ _ g7)) ?_ ?_
    · rintro k x H8 hx ⟨s8, g8⟩
      obtain ⟨T, hT, lT⟩ := d7.at hx
      rw [List.getElem?_map] at hT
      cases eT : efs[k]? with
      | none => rw [eT] at hT; cases hT
      | some e =>
        rw [eT] at hT
        obtain rfl : e.T = T := Option.some.inj hT
        obtain ⟨t, rfl, he⟩ := Ef.at (lT.same s8)
        refine ⟨rfl, _, rfl, _, true, rfl, eff_of he (efs_ok e (List.mem_of_getElem? eT)), fun H9 s9 => ⟨true, true, rfl, rfl, _, rfl, iteF ⟨s8.trans s9, s9 _ _ g8⟩⟩⟩
    · rintro H8 ⟨s8, g8⟩
      refine ⟨Nat.zero_le _, fun r hr0 => ?_⟩
      have s9 := same_upd (o := .lst []) hr0
      refine ⟨.list [], .list [], .lst (SqL.of (s9 _ _ g8)) .nil, .lst (SqL.of upd_same) .nil, by decide +kernel, by decide +kernel, ?_⟩
      rw [SeqAt.eqv_refl (.list []) (by decide +kernel)]
      exact q _ (s06.trans (s7.trans (s8.trans s9)))
end
end L2.K02
set_option Elab.async false
set_option linter.all false
set_option maxRecDepth 100000
set_option maxHeartbeats 4000000
namespace L2.K02
open PySem PySem.Spec PyProof.Rows L2.EV
/-! ### the law -/
abbrev sLaw : Stmt := top 48
abbrev nLaw : List Str := ["_law_script", "_law_purse_here", "_law_turn"]
theorem scLaw : FnScope nLaw ["_law_script"] (defScope sLaw) := ⟨rfl, rfl, rfl, by decide +kernel, rfl, by decide +kernel, by decide +kernel⟩
def spLaw (K : PySem.W.Frag) : Sp := fun vs H Q _ => ∃ (a : Addr) (ns : List Int), vs = [.ref a] ∧ SqL K H a (ns.map V.int) ∧ ns.length ≤ 63 ∧ ∀ H', Q (.bl true) H'
section
variable {P : Program} {w : World} {K : PySem.W.Frag} {mg : Str → Option Value} {base : Heap} {f : Addr} {fd : FuncData}
theorem ok_law (F : FnP K "law" sLaw f fd) (GP : Got P w K mg base 2 "_law_purses" ["_law_script", "_law_few"] (spPurses K)) (GR : Got P w K mg base 5 "_law_pair_right" ["_law_purse_here"] spPR) (GW : Got P w K mg base 4 "_law_words_right" [] spTrue)
    (GM : Got P w K mg base 5 "_law_manners_right" [] spTrue) (GF : Got P w K mg base 9 "_law_refused_right" [] spTrue) (mR : mg "range" = none) : FnOk P w K mg base CX0 10 f fd ["_law_script"] (spLaw K) := by
  refine F.ok scLaw (fun vs H Q E h => ?_) (fun cdv A outer s H vs Q E hr h => ?_)
  · obtain ⟨a, ns, rfl, _⟩ := h
    rfl
  · obtain ⟨a, ns, rfl, hS, hl63, q⟩ := h
    refine ⟨_, PSs.nox (pss_cons (ps_for PassesOwn.never rfl (pi_list (pe_got GP hr (pa_cons (pv 0) (pa_cons pe_int pa_nil)))) (pg_name (i := 1) scLaw.nd rfl (Or.inl rfl))
        (pss_one (ps_for PassesOwn.never rfl (pi_range1 (by rfl) mR (pa_cons pe_int pa_nil)) (pg_name (i := 2) scLaw.nd rfl (Or.inl rfl))
          (pss_one (ps_if (pt_not (pt_val (pe_got GR hr (pa_cons (pv 1) pa_nil)))) (pss_one (ps_ret pe_bl)) pss_nil)))))
      (pss_one (ps_ret (pe_and (pe_got0 GW hr) (pe_and (pe_got0 GM hr) (pe_one (pe_got0 GF hr))))))), ?_⟩
    refine ⟨_, rfl, a, ns, 3, rfl, hS, hl63, ⟨by decide, by decide⟩, fun lp ps Hp0 hlen hlp hps s0 => ⟨lp, rfl, ⟨_, SqL.of hlp⟩, ?_⟩⟩
    have item : ∀ {i : Nat} {x : V}, (ps.map V.ref)[i]? = some x → ∃ e, ps[i]? = some e ∧ x = .ref e := fun {i x} h1 => by
      rw [List.getElem?_map] at h1
      cases q : ps[i]? with
      | none => rw [q] at h1; cases h1
      | some e => rw [q] at h1; exact ⟨e, rfl, (Option.some.inj h1).symm⟩
    refine for_list (K := K) (a := lp) (xs := ps.map V.ref) (fun i σ H' => (∃ v1 v2, σ = [some (.ref a), v1, v2]) ∧ H' lp = some (.lst (ps.map V.ref)) ∧ ∀ p ∈ ps, PurseAt H' p (250 * i))
      ⟨⟨_, _, rfl⟩, hlp, fun p hp => (hps p hp).1⟩ (fun i σ H' _ ⟨_, g, _⟩ => SqL.of g) ?_ ?_
    · rintro i x σ H' hx ⟨⟨v1, v2, rfl⟩, g, hp⟩
      obtain ⟨p, h1, rfl⟩ := item hx
      have hi : i < ps.length := (List.getElem?_eq_some_iff.mp h1).1
      have hm : p ∈ ps := List.mem_of_getElem? h1
      refine ⟨50, rfl, by decide, by decide, ?_⟩
      refine for_range (lo := 0) (n := 50) (fun j σ H2 => (∃ v2, σ = [some (.ref a), some (.ref p), v2]) ∧ Old p H' H2 ∧ PurseAt H2 p (250 * i + 5 * j)) ⟨⟨_, rfl⟩, Old.refl _ _, hp p hm⟩ ?_ ?_
      · rintro j σ H2 hj ⟨⟨v2, rfl⟩, o2, p2⟩
        refine ⟨_, rfl, p, 250 * i + 5 * j, rfl, p2, by omega, fun H3 p3 o3 => ⟨true, rfl, iteF ?_⟩⟩
        exact ⟨⟨_, rfl⟩, o2.trans o3, p3⟩
      · rintro σ H2 ⟨⟨v2, rfl⟩, o2, p2⟩
        refine ⟨⟨_, _, rfl⟩, o2 _ _ (Ne.symm (hps p hm).2) g, fun r hq => ?_⟩
        by_cases e : r = p
        · rw [e]
          exact p2.up (by omega)
        · obtain ⟨c, z, t, b, h3, h4⟩ := (hp r hq).up (m := 250 * (i + 1)) (by omega)
          exact ⟨c, z, t, b, o2 _ _ e h3, h4⟩
    · rintro σ H1 ⟨⟨v1, v2, rfl⟩, _, _⟩
      refine ⟨rfl, fun H2 _ => ?_⟩
      exact ⟨true, rfl, rfl, fun H3 _ => ⟨true, rfl, rfl, fun H4 _ => q H4⟩⟩
end
end L2.K02
set_option Elab.async false
set_option linter.all false
set_option maxRecDepth 100000
set_option maxHeartbeats 4000000
namespace L2.K02
open PySem PySem.Spec PyProof.Rows L2.EV
def dn (x : Str) (i : Nat) : He.DefD := ⟨(x, none), x, x, defArgs (top i), defBody (top i), defScope (top i), [], []⟩
def di (x q : Str) (i : Nat) : He.DefD := ⟨(x, some "__init__"), "__init__", q, defArgs (inClass (top i) 0), defBody (inClass (top i) 0), defScope (inClass (top i) 0), [.non], []⟩
def fn : List He.DefD := [dn "is_count" 9, dn "is_tuple_of" 10, dn "has_word_form" 11, dn "has_effect_form" 12, dn "has_manner_form" 13, dn "check_count" 15, dn "check_effect" 16, dn "worth" 19, dn "sides_apart" 20, dn "is_never_more" 21, dn "is_word" 23, dn "is_effect" 24, dn "is_manner" 25, dn "worth_at" 26, dn "beats" 27, dn "parting_sides" 28, dn "are_parting_sides" 29, dn "_law_purse" 31, dn "_law_mixed" 32, dn "_law_draw" 33, dn "_law_purses" 34, dn "_law_one_of" 35, dn "_law_exact" 36, dn "_law_all_effects" 37, dn "_law_sum" 38, dn "_law_parted" 39, dn "_law_told" 40, dn "_law_very" 41, dn "_law_pair_right" 42, dn "_law_is_count" 43, dn "_law_odd_effects" 44, dn "_law_words_right" 45, dn "_law_manners_right" 46, dn "_law_refused_right" 47, dn "law" 48, di "InvalidEffect" "InvalidEffect.__init__" 2, di "InvalidCount" "InvalidCount.__init__" 4]
def fa : List He.Fa := [.glo "is_count", .glo "is_tuple_of", .glo "has_word_form", .glo "has_effect_form", .glo "has_manner_form", .glo "check_count", .glo "check_effect", .glo "worth", .glo "sides_apart", .glo "is_never_more", .glo "is_word", .glo "is_effect", .glo "is_manner", .glo "worth_at", .glo "beats", .glo "parting_sides", .glo "are_parting_sides", .glo "_law_purse", .glo "_law_mixed", .glo "_law_draw", .glo "_law_purses", .glo "_law_one_of", .glo "_law_exact", .glo "_law_all_effects", .glo "_law_sum", .glo "_law_parted", .glo "_law_told", .glo "_law_very", .glo "_law_pair_right", .glo "_law_is_count", .glo "_law_odd_effects", .glo "_law_words_right", .glo "_law_manners_right", .glo "_law_refused_right", .glo "law", .free "isinstance", .free "int", .free "bool", .free "str", .free "tuple", .free "len", .free "all", .free "list", .free "dict", .free "zip", .free "range", .free "max", .free "min", .free "sum", .glo "PurseError", .glo "InvalidManner", .glo "NUMBERS_BEHIND", .glo "TELLING_SIDES", .int "LONGEST_WORD" 8, .int "MOST_COINS" 3]
def ts : List He.Tab := [((fun K => He.ga K "NUMBERS_BEHIND"), ["coins", "fill"])]
/-- the i-th item of the module's tuple x, an object -/
def itAt (x : Str) (i : Nat) (K : PySem.W.Frag) : Addr := match K.lookup (He.ga K x) with
  | some ⟨_, _, .seq its _, _⟩ => (match its.toList[i]? with
    | some (.ref a) => a
    | _ => 0)
  | _ => 0
/-- at a: a written tuple of these -/
def tupA (K : PySem.W.Frag) (a : Addr) (vs : List V) : Bool := match K.lookup a with
  | some ⟨.type c, _, .seq its _, _⟩ => decide (c = "tuple") && (decide (its.size ≤ sizeLine) && He.relAll vs its.toList)
  | _ => false
def tsd (K : PySem.W.Frag) : List Addr := (List.range 4).map fun i => itAt "TELLING_SIDES" i K
def more (K : PySem.W.Frag) : Bool :=
  [errB K "InvalidEffect", errB K "InvalidCount", asksB K (aE K), asksB K (aC K),
   decide (PySem.W.exmOne K (.ref (aE K)) (.ref (aE K)) = some true), decide (PySem.W.exmOne K (.ref (aC K)) (.ref (aE K)) = some false), decide (PySem.W.exmOne K (.ref (aC K)) (.ref (aC K)) = some true),
   decide (PySem.W.kitAny K (.ref (aE K)) [.ref (aC K), .ref (aM K)] = some false), decide (PySem.W.kitAny K (.ref (aC K)) [.ref (aE K), .ref (aM K)] = some false),
   decide (PySem.W.kitOne K (.ref (aE K)) (.ref (aP K)) = some true), decide (PySem.W.kitOne K (.ref (aC K)) (.ref (aP K)) = some true),
   He.valsB K (He.ga K "NUMBERS_BEHIND") [("coins", .int 1), ("fill", .int 2)],
   tupA K (He.ga K "TELLING_SIDES") ((tsd K).map V.ref),
   (List.range 4).all fun i => tupA K (itAt "TELLING_SIDES" i K) (match sides[i]? with | some p => [.int p.1, .int p.2] | none => [])].all id
abbrev Al : Type := He.AlT × Bool
def obs (g : Addr → Option Obj) : Al := let K := He.frG g (He.asD g 5); (He.obsT fa fn ts K, more K)
def hk : PySem.W.Hook where
  α := Al
  obs := fun s => obs s.heap.get?
  val := fun w => (He.valT fn ts w, true)
  says := fun w h => ∃ K : PySem.W.Frag, K.In h ∧ He.SaysT fa fn ts w K ∧ more K = true
  of := fun _ _ e => ⟨_, He.frG_in, congrArg (fun z : Al => z.1) e, congrArg (fun z : Al => z.2) e⟩
  keeps := fun _ _ _ ⟨K, hK, c⟩ k => ⟨K, PySem.W.Frag.In.keeps hK k, c⟩
abbrev R : PySem.W.OpenRow := PySem.W.OpenLaw.row PySem.Challenge.rw_withinbooks_k02_whole_effects_and_worth
def ob (s : PySem.W.SharedT) : Al := obs (HandSHeadRun.getT s)
theorem ob_eq (s : PySem.W.SharedT) : ob s = hk.obs s.abs := by
  have e : HandSHeadRun.getT s = s.abs.heap.get? := funext (HandSHeadRun.getT_eq s)
  show obs _ = obs _
  rw [e]
def loose : List Str := (["PurseError", "InvalidEffect", "InvalidManner", "InvalidCount", "LONGEST_WORD", "MOST_COINS", "NUMBERS_BEHIND", "TELLING_SIDES", "is_count", "is_tuple_of", "has_word_form", "has_effect_form", "has_manner_form", "check_count", "check_effect", "worth", "sides_apart", "is_never_more", "is_word", "is_effect"] : List Str) ++ (["is_manner", "worth_at", "beats", "parting_sides", "are_parting_sides", "_law_purse", "_law_mixed", "_law_draw", "_law_purses", "_law_one_of", "_law_exact", "_law_all_effects", "_law_sum", "_law_parted", "_law_told", "_law_very", "_law_pair_right", "_law_is_count", "_law_odd_effects", "_law_words_right"] : List Str) ++ (["_law_manners_right", "_law_refused_right"] : List Str)
end L2.K02
set_option Elab.async false
set_option linter.all false
set_option maxRecDepth 100000
set_option maxHeartbeats 4000000
namespace L2.K02
open PySem PySem.Spec PyProof.Rows L2.EV
theorem tupA_ok {K : PySem.W.Frag} {a : Addr} {vs : List V} (h : tupA K a vs = true) (H : Hp) : SqT K H a vs := by
  unfold tupA at h
  cases q : K.lookup a with
  | none =>
    rw [q] at h
    cases h
  | some o =>
    obtain ⟨oc, od, dt, osl⟩ := o
    rw [q] at h
    cases oc with
    | type c =>
      cases dt with
      | seq its n =>
        obtain ⟨h1, h2⟩ := He.ba (show (decide (c = "tuple") && (decide (its.size ≤ sizeLine) && He.relAll vs its.toList)) = true from h)
        obtain ⟨h3, h4⟩ := He.ba h2
        exact .inr ⟨_, its, n, q, congrArg Value.type (of_decide_eq_true h1), rfl, of_decide_eq_true h3, He.relAll_ok h4⟩
      | _ => cases h
    | _ => cases dt <;> cases h
theorem keyOf_ok {e : DictEntry} {k : Str} {x : Int} (h : He.keyOf e = some (k, x)) : ∃ t, e.key = .str k t := by
  unfold He.keyOf at h
  split at h
  · rename_i y t q
    obtain ⟨h5, _⟩ := Prod.mk.inj (Option.some.inj h)
    exact ⟨t, by rw [q, h5]⟩
  · cases h
/-- no such key -/
theorem miss_of {K : PySem.W.Frag} {P : Params} {a : Addr} {ks : List Str} (h : He.dicW K a = some (He.keysIn P ks)) {z : Str} (hz : z ∉ ks) : PySem.W.nsIn K a z = some none := by
  unfold He.dicW at h
  split at h
  · rename_i c es n sl q
    split at h
    · have e := Option.some.inj h
      have keys : ∀ d ∈ es.toList, ∃ k t, k ∈ ks ∧ d.key = .str k t := fun d hd => by
        have m : He.keyOf d ∈ He.keysIn P ks := e ▸ List.mem_map_of_mem hd
        obtain ⟨k, hk, ek⟩ := List.mem_map.mp m
        obtain ⟨t, et⟩ := keyOf_ok ek.symm
        exact ⟨k, t, hk, et⟩
      have f : es.toList.find? (·.key.isStr z) = none := List.find?_eq_none.mpr fun d hd => by
        obtain ⟨k, t, hk, et⟩ := keys d hd
        rw [et]
        show ¬ ((k == z) = true)
        intro y
        exact hz (eq_of_beq y ▸ hk)
      have g : es.toList.any (·.refKey) = false := List.any_eq_false.mpr fun d hd => by
        obtain ⟨k, t, hk, et⟩ := keys d hd
        have e : d.refKey = false := by
          unfold DictEntry.refKey
          rw [et]
        rw [e]
        exact Bool.false_ne_true
      unfold PySem.W.nsIn
      rw [q]
      dsimp only
      rw [f, g]
      rfl
    · cases h
  · cases h
theorem nb_of {K : PySem.W.Frag} {w : World} {mg : Str → Option Value} (gD : mg "NUMBERS_BEHIND" = some (.ref (He.ga K "NUMBERS_BEHIND"))) (c : He.SaysT fa fn ts w K) (v : He.valsB K (He.ga K "NUMBERS_BEHIND") [("coins", .int 1), ("fill", .int 2)] = true) : Nb K w mg := by
  have e : ts.map (fun t => He.dicW K (t.1 K)) = ts.map fun t => some (He.keysIn w.params t.2) := congrArg (fun z : He.AlT => z.2) c
  have e0 : He.dicW K (He.ga K "NUMBERS_BEHIND") = some (He.keysIn w.params ["coins", "fill"]) := (List.cons.inj e).1
  obtain ⟨es, n, kd⟩ := He.dicW_ok e0
  refine ⟨_, es, n, gD, kd, fun z hz => miss_of e0 fun m => ?_, fun z k hz => ?_⟩
  · unfold behind at hz
    rcases List.mem_cons.mp m with e | m
    · rw [if_pos e] at hz
      cases hz
    · have e := List.mem_singleton.mp m
      rw [e] at hz
      cases hz
  · unfold behind at hz
    split at hz
    · next e =>
      cases hz
      obtain ⟨u, hu, t, r⟩ := He.valsB_ok v (q := ("coins", .int 1)) (.head _)
      exact ⟨t, by rw [e, hu, r]; rfl⟩
    · split at hz
      · next e =>
        cases hz
        obtain ⟨u, hu, t, r⟩ := He.valsB_ok v (q := ("fill", .int 2)) (.tail _ (.head _))
        exact ⟨t, by rw [e, hu, r]; rfl⟩
      · cases hz
theorem tsd_of {K : PySem.W.Frag} {mg : Str → Option Value} (gT : mg "TELLING_SIDES" = some (.ref (He.ga K "TELLING_SIDES"))) (h : tupA K (He.ga K "TELLING_SIDES") ((tsd K).map V.ref) = true)
    (hi : ((List.range 4).all fun i => tupA K (itAt "TELLING_SIDES" i K) (match sides[i]? with | some p => [.int p.1, .int p.2] | none => [])) = true) : Tsd K mg := by
  refine ⟨_, tsd K, gT, by unfold tsd; rw [List.length_map, List.length_range], fun H => tupA_ok h H, fun i t p ht hp H => ?_⟩
  unfold tsd at ht
  rw [List.getElem?_map] at ht
  cases e : (List.range 4)[i]? with
  | none => rw [e] at ht; cases ht
  | some j =>
    rw [e] at ht
    cases ht
    obtain ⟨hl, ej⟩ := List.getElem?_eq_some_iff.mp e
    rw [List.getElem_range] at ej
    subst ej
    have := List.all_eq_true.mp hi i (List.mem_of_getElem? e)
    rw [hp] at this
    exact tupA_ok this H
theorem inE : Init1 (inClass (top 2) 0) := ⟨⟨_, _, _, _, _, _, _, rfl, rfl, rfl⟩⟩
theorem inC : Init1 (inClass (top 4) 0) := ⟨⟨_, _, _, _, _, _, _, rfl, rfl, rfl⟩⟩
theorem ok_ex0 {P : Program} {w : World} {K : PySem.W.Frag} {mg : Str → Option Value} {base : Heap} {f : Addr} {fd : FuncData} (F : FnP K "_law_exact" sEx f fd) : FnOk P w K mg base CX0 1 f fd pEx (spEx 0) := by
  refine F.ok (k := 0) scEx (fun vs H Q E h => ?_) (fun cdv A outer s H vs Q E hr h => ?_)
  · obtain ⟨x, y, rfl, _⟩ := h
    rfl
  · obtain ⟨x, y, _, hA, _⟩ := h
    cases hA
theorem fnG {P : Program} {w : World} {K : PySem.W.Frag} {mg : Str → Option Value} {base : Heap} {k : Nat} {f : Addr} {fd : FuncData} {ps : List Str} {sp : Sp} (F : FnOk P w K mg base CX0 k f fd ps sp) : FnG P w K mg base k f fd ps sp :=
  ⟨F.len, fun A outer s H args us vs Q E _ => F.run A outer s H args us vs Q E⟩
theorem facts {P : Program} {w : World} {K : PySem.W.Frag} {h : Heap} {mg : Str → Option Value} {f : Addr} (X : K.In h) (G : h.Ns mainGlobals mg) (hfa : mg ("law" : Str) = some (.ref f)) (c : He.SaysT fa fn ts w K) (M : more K = true) :
    ∃ fd : FuncData, (∀ (s : Shared) (v : Value), BindsTo s fd ⟨[v], []⟩ [("_law_script", v)]) ∧ ∀ base : Heap, K.In base → base.Ns mainGlobals mg → FnG P w K mg base 10 f fd ["_law_script"] (spLaw K) := by
  obtain ⟨d0, F0⟩ := c.d.def_ 0 (d := dn "is_count" 9) rfl
  obtain ⟨d1, F1⟩ := c.d.def_ 1 (d := dn "is_tuple_of" 10) rfl
  obtain ⟨d2, F2⟩ := c.d.def_ 2 (d := dn "has_word_form" 11) rfl
  obtain ⟨d3, F3⟩ := c.d.def_ 3 (d := dn "has_effect_form" 12) rfl
  obtain ⟨d4, F4⟩ := c.d.def_ 4 (d := dn "has_manner_form" 13) rfl
  obtain ⟨d5, F5⟩ := c.d.def_ 5 (d := dn "check_count" 15) rfl
  obtain ⟨d6, F6⟩ := c.d.def_ 6 (d := dn "check_effect" 16) rfl
  obtain ⟨d7, F7⟩ := c.d.def_ 7 (d := dn "worth" 19) rfl
  obtain ⟨d8, F8⟩ := c.d.def_ 8 (d := dn "sides_apart" 20) rfl
  obtain ⟨d9, F9⟩ := c.d.def_ 9 (d := dn "is_never_more" 21) rfl
  obtain ⟨d10, F10⟩ := c.d.def_ 10 (d := dn "is_word" 23) rfl
  obtain ⟨d11, F11⟩ := c.d.def_ 11 (d := dn "is_effect" 24) rfl
  obtain ⟨d12, F12⟩ := c.d.def_ 12 (d := dn "is_manner" 25) rfl
  obtain ⟨d13, F13⟩ := c.d.def_ 13 (d := dn "worth_at" 26) rfl
  obtain ⟨d14, F14⟩ := c.d.def_ 14 (d := dn "beats" 27) rfl
  obtain ⟨d15, F15⟩ := c.d.def_ 15 (d := dn "parting_sides" 28) rfl
  obtain ⟨d16, F16⟩ := c.d.def_ 16 (d := dn "are_parting_sides" 29) rfl
  obtain ⟨d17, F17⟩ := c.d.def_ 17 (d := dn "_law_purse" 31) rfl
  obtain ⟨d18, F18⟩ := c.d.def_ 18 (d := dn "_law_mixed" 32) rfl
  obtain ⟨d19, F19⟩ := c.d.def_ 19 (d := dn "_law_draw" 33) rfl
  obtain ⟨d20, F20⟩ := c.d.def_ 20 (d := dn "_law_purses" 34) rfl
  obtain ⟨d21, F21⟩ := c.d.def_ 21 (d := dn "_law_one_of" 35) rfl
  obtain ⟨d22, F22⟩ := c.d.def_ 22 (d := dn "_law_exact" 36) rfl
  obtain ⟨d23, F23⟩ := c.d.def_ 23 (d := dn "_law_all_effects" 37) rfl
  obtain ⟨d24, F24⟩ := c.d.def_ 24 (d := dn "_law_sum" 38) rfl
  obtain ⟨d25, F25⟩ := c.d.def_ 25 (d := dn "_law_parted" 39) rfl
  obtain ⟨d26, F26⟩ := c.d.def_ 26 (d := dn "_law_told" 40) rfl
  obtain ⟨d27, F27⟩ := c.d.def_ 27 (d := dn "_law_very" 41) rfl
  obtain ⟨d28, F28⟩ := c.d.def_ 28 (d := dn "_law_pair_right" 42) rfl
  obtain ⟨d29, F29⟩ := c.d.def_ 29 (d := dn "_law_is_count" 43) rfl
  obtain ⟨d30, F30⟩ := c.d.def_ 30 (d := dn "_law_odd_effects" 44) rfl
  obtain ⟨d31, F31⟩ := c.d.def_ 31 (d := dn "_law_words_right" 45) rfl
  obtain ⟨d32, F32⟩ := c.d.def_ 32 (d := dn "_law_manners_right" 46) rfl
  obtain ⟨d33, F33⟩ := c.d.def_ 33 (d := dn "_law_refused_right" 47) rfl
  obtain ⟨d34, F34⟩ := c.d.def_ 34 (d := dn "law" 48) rfl
  obtain ⟨i0, I0⟩ := c.d.def_ 35 (d := di "InvalidEffect" "InvalidEffect.__init__" 2) rfl
  obtain ⟨i1, I1⟩ := c.d.def_ 36 (d := di "InvalidCount" "InvalidCount.__init__" 4) rfl
  have g0 := He.glo_ok X G (c.d.fact 0 (f := .glo "is_count") rfl)
  have g1 := He.glo_ok X G (c.d.fact 1 (f := .glo "is_tuple_of") rfl)
  have g2 := He.glo_ok X G (c.d.fact 2 (f := .glo "has_word_form") rfl)
  have g3 := He.glo_ok X G (c.d.fact 3 (f := .glo "has_effect_form") rfl)
  have g4 := He.glo_ok X G (c.d.fact 4 (f := .glo "has_manner_form") rfl)
  have g5 := He.glo_ok X G (c.d.fact 5 (f := .glo "check_count") rfl)
  have g6 := He.glo_ok X G (c.d.fact 6 (f := .glo "check_effect") rfl)
  have g7 := He.glo_ok X G (c.d.fact 7 (f := .glo "worth") rfl)
  have g8 := He.glo_ok X G (c.d.fact 8 (f := .glo "sides_apart") rfl)
  have g9 := He.glo_ok X G (c.d.fact 9 (f := .glo "is_never_more") rfl)
  have g10 := He.glo_ok X G (c.d.fact 10 (f := .glo "is_word") rfl)
  have g11 := He.glo_ok X G (c.d.fact 11 (f := .glo "is_effect") rfl)
  have g12 := He.glo_ok X G (c.d.fact 12 (f := .glo "is_manner") rfl)
  have g13 := He.glo_ok X G (c.d.fact 13 (f := .glo "worth_at") rfl)
  have g14 := He.glo_ok X G (c.d.fact 14 (f := .glo "beats") rfl)
  have g15 := He.glo_ok X G (c.d.fact 15 (f := .glo "parting_sides") rfl)
  have g16 := He.glo_ok X G (c.d.fact 16 (f := .glo "are_parting_sides") rfl)
  have g17 := He.glo_ok X G (c.d.fact 17 (f := .glo "_law_purse") rfl)
  have g18 := He.glo_ok X G (c.d.fact 18 (f := .glo "_law_mixed") rfl)
  have g19 := He.glo_ok X G (c.d.fact 19 (f := .glo "_law_draw") rfl)
  have g20 := He.glo_ok X G (c.d.fact 20 (f := .glo "_law_purses") rfl)
  have g21 := He.glo_ok X G (c.d.fact 21 (f := .glo "_law_one_of") rfl)
  have g22 := He.glo_ok X G (c.d.fact 22 (f := .glo "_law_exact") rfl)
  have g23 := He.glo_ok X G (c.d.fact 23 (f := .glo "_law_all_effects") rfl)
  have g24 := He.glo_ok X G (c.d.fact 24 (f := .glo "_law_sum") rfl)
  have g25 := He.glo_ok X G (c.d.fact 25 (f := .glo "_law_parted") rfl)
  have g26 := He.glo_ok X G (c.d.fact 26 (f := .glo "_law_told") rfl)
  have g27 := He.glo_ok X G (c.d.fact 27 (f := .glo "_law_very") rfl)
  have g28 := He.glo_ok X G (c.d.fact 28 (f := .glo "_law_pair_right") rfl)
  have g29 := He.glo_ok X G (c.d.fact 29 (f := .glo "_law_is_count") rfl)
  have g30 := He.glo_ok X G (c.d.fact 30 (f := .glo "_law_odd_effects") rfl)
  have g31 := He.glo_ok X G (c.d.fact 31 (f := .glo "_law_words_right") rfl)
  have g32 := He.glo_ok X G (c.d.fact 32 (f := .glo "_law_manners_right") rfl)
  have g33 := He.glo_ok X G (c.d.fact 33 (f := .glo "_law_refused_right") rfl)
  have m_isinstance := He.free_ok X G (c.d.fact 35 (f := .free "isinstance") rfl)
  have m_int := He.free_ok X G (c.d.fact 36 (f := .free "int") rfl)
  have m_bool := He.free_ok X G (c.d.fact 37 (f := .free "bool") rfl)
  have m_str := He.free_ok X G (c.d.fact 38 (f := .free "str") rfl)
  have m_tuple := He.free_ok X G (c.d.fact 39 (f := .free "tuple") rfl)
  have m_len := He.free_ok X G (c.d.fact 40 (f := .free "len") rfl)
  have m_all := He.free_ok X G (c.d.fact 41 (f := .free "all") rfl)
  have m_list := He.free_ok X G (c.d.fact 42 (f := .free "list") rfl)
  have m_dict := He.free_ok X G (c.d.fact 43 (f := .free "dict") rfl)
  have m_zip := He.free_ok X G (c.d.fact 44 (f := .free "zip") rfl)
  have m_range := He.free_ok X G (c.d.fact 45 (f := .free "range") rfl)
  have m_max := He.free_ok X G (c.d.fact 46 (f := .free "max") rfl)
  have m_min := He.free_ok X G (c.d.fact 47 (f := .free "min") rfl)
  have m_sum := He.free_ok X G (c.d.fact 48 (f := .free "sum") rfl)
  have r_PurseError := He.glo_ok X G (c.d.fact 49 (f := .glo "PurseError") rfl)
  have r_InvalidManner := He.glo_ok X G (c.d.fact 50 (f := .glo "InvalidManner") rfl)
  have r_NUMBERS_BEHIND := He.glo_ok X G (c.d.fact 51 (f := .glo "NUMBERS_BEHIND") rfl)
  have r_TELLING_SIDES := He.glo_ok X G (c.d.fact 52 (f := .glo "TELLING_SIDES") rfl)
  obtain ⟨t0, n0⟩ := He.int_ok X G (c.d.fact 53 (f := .int "LONGEST_WORD" 8) rfl)
  obtain ⟨t1, n1⟩ := He.int_ok X G (c.d.fact 54 (f := .int "MOST_COINS" 3) rfl)
  have e := hfa.symm.trans (He.glo_ok X G (c.d.fact 34 (f := .glo "law") rfl))
  cases e
  unfold more at M
  simp only [List.all_cons, List.all_nil, id, Bool.and_true, Bool.and_eq_true, decide_eq_true_eq] at M
  obtain ⟨ME, MC, AE, AC, xEE, xCE, xCC, kE, kC, pE, pC, vN, vT, vS⟩ := M
  have B : Nb K w mg := nb_of r_NUMBERS_BEHIND c vN
  have S : Tsd K mg := tsd_of r_TELLING_SIDES vT vS
  have b := FunD.bindsA (ps := ["_law_script"]) F34 fun _ _ _ _ _ _ us hl => match us, hl with | [_], _ => rfl
  refine ⟨d34, fun s v => b s [v] rfl, fun base _ _ => ?_⟩
  have T : Tx P w K mg base := by
    obtain ⟨gE, EE⟩ := errB_ok ME
    obtain ⟨gC, EC⟩ := errB_ok MC
    exact ⟨ck_of inE I0 (He.glo_ok X G gE) EE, ck_of inC I1 (He.glo_ok X G gC) EC, r_InvalidManner, r_PurseError, asksB_ok AE, asksB_ok AC, xEE, xCE, xCC, kE, kC, pE, pC⟩
  have b0 := FunD.bindsN (ps := ["value"]) F0 fun _ _ _ _ _ _ us hl => match us, hl with | [_], _ => rfl
  have Gcount : Got P w K mg base 1 "is_count" ["value"] (spCnt K) := ⟨⟨_, _, ok_cnt F0 m_isinstance m_int m_bool, b0, F0.kp, g0⟩⟩
  have b1 := FunD.bindsN (ps := ["value", "length"]) F1 fun _ _ _ _ _ _ us hl => match us, hl with | [_, _], _ => rfl
  have Gtof : Got P w K mg base 1 "is_tuple_of" ["value", "length"] (spTof K) := ⟨⟨_, _, ok_tof F1 m_isinstance m_tuple m_len, b1, F1.kp, g1⟩⟩
  have b2 := FunD.bindsN (ps := ["value"]) F2 fun _ _ _ _ _ _ us hl => match us, hl with | [_], _ => rfl
  have Gwf : Got P w K mg base 1 "has_word_form" ["value"] (spWF K) := ⟨⟨_, _, ok_wf F2 n0 m_isinstance m_len m_str, b2, F2.kp, g2⟩⟩
  have b3 := FunD.bindsN (ps := ["value"]) F3 fun _ _ _ _ _ _ us hl => match us, hl with | [_], _ => rfl
  have Gef : Got P w K mg base 2 "has_effect_form" ["value"] (spEF K) := ⟨⟨_, _, ok_ef F3 Gcount B n1 m_isinstance m_len m_str m_tuple m_all, b3, F3.kp, g3⟩⟩
  have b4 := FunD.bindsN (ps := ["value"]) F4 fun _ _ _ _ _ _ us hl => match us, hl with | [_], _ => rfl
  have Gmf : Got P w K mg base 3 "has_manner_form" ["value"] (spMF K) := ⟨⟨_, _, ok_mf F4 Gtof Gef Gwf m_all, b4, F4.kp, g4⟩⟩
  have b5 := FunD.bindsN (ps := ["value"]) F5 fun _ _ _ _ _ _ us hl => match us, hl with | [_], _ => rfl
  have Gcc : GotX P w K mg base 3 "check_count" ["value"] (spCC K) := ⟨⟨_, _, ok_cc F5 T Gcount, b5, F5.kp, g5⟩⟩
  have b6 := FunD.bindsN (ps := ["value"]) F6 fun _ _ _ _ _ _ us hl => match us, hl with | [_], _ => rfl
  have Gce : GotX P w K mg base 3 "check_effect" ["value"] (spCE K) := ⟨⟨_, _, ok_ce F6 T Gef, b6, F6.kp, g6⟩⟩
  have b7 := FunD.bindsN (ps := ["effect", "ahead", "behind"]) F7 fun _ _ _ _ _ _ us hl => match us, hl with | [_, _, _], _ => rfl
  have Gw : Got P w K mg base 1 "worth" ["effect", "ahead", "behind"] spW := ⟨⟨_, _, ok_w F7 m_max, b7, F7.kp, g7⟩⟩
  have b8 := FunD.bindsN (ps := ["effect", "other"]) F8 fun _ _ _ _ _ _ us hl => match us, hl with | [_, _], _ => rfl
  have Gsa : Got P w K mg base 2 "sides_apart" ["effect", "other"] spSA := ⟨⟨_, _, ok_sa F8 S Gw, b8, F8.kp, g8⟩⟩
  have b9 := FunD.bindsN (ps := ["effect", "other"]) F9 fun _ _ _ _ _ _ us hl => match us, hl with | [_, _], _ => rfl
  have Gnm : Got P w K mg base 3 "is_never_more" ["effect", "other"] spNM := ⟨⟨_, _, ok_nm F9 Gsa, b9, F9.kp, g9⟩⟩
  have b10 := FunD.bindsN (ps := ["value"]) F10 fun _ _ _ _ _ _ us hl => match us, hl with | [_], _ => rfl
  have Giw : Got P w K mg base 2 "is_word" ["value"] (spWF K) := ⟨⟨_, _, ok_iw F10 Gwf, b10, F10.kp, g10⟩⟩
  have b11 := FunD.bindsN (ps := ["value"]) F11 fun _ _ _ _ _ _ us hl => match us, hl with | [_], _ => rfl
  have Gie : Got P w K mg base 3 "is_effect" ["value"] (spEF K) := ⟨⟨_, _, ok_ie F11 Gef, b11, F11.kp, g11⟩⟩
  have b12 := FunD.bindsN (ps := ["value"]) F12 fun _ _ _ _ _ _ us hl => match us, hl with | [_], _ => rfl
  have Gim : Got P w K mg base 4 "is_manner" ["value"] (spMF K) := ⟨⟨_, _, ok_im F12 Gmf, b12, F12.kp, g12⟩⟩
  have b13 := FunD.bindsN (ps := ["effect", "ahead", "behind"]) F13 fun _ _ _ _ _ _ us hl => match us, hl with | [_, _, _], _ => rfl
  have Gwa : GotX P w K mg base 4 "worth_at" ["effect", "ahead", "behind"] (spWA K) := ⟨⟨_, _, ok_wa F13 Gce Gcc Gw, b13, F13.kp, g13⟩⟩
  have b14 := FunD.bindsN (ps := ["effect", "other"]) F14 fun _ _ _ _ _ _ us hl => match us, hl with | [_, _], _ => rfl
  have Gbe : GotX P w K mg base 4 "beats" ["effect", "other"] (spBe K) := ⟨⟨_, _, ok_be F14 Gce Gnm, b14, F14.kp, g14⟩⟩
  have b15 := FunD.bindsN (ps := ["effect", "other"]) F15 fun _ _ _ _ _ _ us hl => match us, hl with | [_, _], _ => rfl
  have Gps : GotX P w K mg base 4 "parting_sides" ["effect", "other"] (spPS K) := ⟨⟨_, _, ok_ps F15 Gce Gsa, b15, F15.kp, g15⟩⟩
  have b16 := FunD.bindsN (ps := ["effect", "other", "value"]) F16 fun _ _ _ _ _ _ us hl => match us, hl with | [_, _, _], _ => rfl
  have Gap : GotX P w K mg base 4 "are_parting_sides" ["effect", "other", "value"] (spAP K) := ⟨⟨_, _, ok_ap F16 Gce Gtof Gcount Gw, b16, F16.kp, g16⟩⟩
  have Kiw : GotK P w K mg base CX0 2 "is_word" ["value"] ["value"] (fun {_} l => l) (spWF K) := ⟨⟨_, _, ok_iw F10 Gwf, FunD.kw F10 (ps := ["value"]) (ks := ["value"]) (fun {_} l => l) (fun _ _ _ _ _ _ ws hl => match ws, hl with | [_], _ => rfl) (fun r _ => r), F10.kp, g10⟩⟩
  have Kie : GotK P w K mg base CX0 3 "is_effect" ["value"] ["value"] (fun {_} l => l) (spEF K) := ⟨⟨_, _, ok_ie F11 Gef, FunD.kw F11 (ps := ["value"]) (ks := ["value"]) (fun {_} l => l) (fun _ _ _ _ _ _ ws hl => match ws, hl with | [_], _ => rfl) (fun r _ => r), F11.kp, g11⟩⟩
  have Kim : GotK P w K mg base CX0 4 "is_manner" ["value"] ["value"] (fun {_} l => l) (spMF K) := ⟨⟨_, _, ok_im F12 Gmf, FunD.kw F12 (ps := ["value"]) (ks := ["value"]) (fun {_} l => l) (fun _ _ _ _ _ _ ws hl => match ws, hl with | [_], _ => rfl) (fun r _ => r), F12.kp, g12⟩⟩
  have Kbe : GotK P w K mg base (L2.CX P w) 4 "beats" ["effect", "other"] ["other", "effect"] flip2 (spBe K) := ⟨⟨_, _, ok_be F14 Gce Gnm, FunD.kw F14 (ps := ["effect", "other"]) (ks := ["other", "effect"]) flip2 (fun _ _ _ _ _ _ ws hl => match ws, hl with | [_, _], _ => rfl) flip2_rel, F14.kp, g14⟩⟩
  have Kps : GotK P w K mg base (L2.CX P w) 4 "parting_sides" ["effect", "other"] ["other", "effect"] flip2 (spPS K) := ⟨⟨_, _, ok_ps F15 Gce Gsa, FunD.kw F15 (ps := ["effect", "other"]) (ks := ["other", "effect"]) flip2 (fun _ _ _ _ _ _ ws hl => match ws, hl with | [_, _], _ => rfl) flip2_rel, F15.kp, g15⟩⟩
  have Kwa : GotK P w K mg base (L2.CX P w) 4 "worth_at" ["effect", "ahead", "behind"] ["behind", "effect", "ahead"] turn3 (spWA K) := ⟨⟨_, _, ok_wa F13 Gce Gcc Gw, FunD.kw F13 (ps := ["effect", "ahead", "behind"]) (ks := ["behind", "effect", "ahead"]) turn3 (fun _ _ _ _ _ _ ws hl => match ws, hl with | [_, _, _], _ => rfl) turn3_rel, F13.kp, g13⟩⟩
  have Kap : GotK P w K mg base (L2.CX P w) 4 "are_parting_sides" ["effect", "other", "value"] ["value", "other", "effect"] back3 (spAP K) := ⟨⟨_, _, ok_ap F16 Gce Gtof Gcount Gw, FunD.kw F16 (ps := ["effect", "other", "value"]) (ks := ["value", "other", "effect"]) back3 (fun _ _ _ _ _ _ ws hl => match ws, hl with | [_, _, _], _ => rfl) back3_rel, F16.kp, g16⟩⟩
  have b19 := FunD.bindsN (ps := ["_law_purse_here", "_law_many"]) F19 fun _ _ _ _ _ _ us hl => match us, hl with | [_, _], _ => rfl
  have Gdr : Got P w K mg base 2 "_law_draw" ["_law_purse_here", "_law_many"] spDraw := ⟨⟨_, _, ok_draw F19 F18 g18 m_int m_range, b19, F19.kp, g19⟩⟩
  have b21 := FunD.bindsN (ps := ["_law_purse_here", "_law_some"]) F21 fun _ _ _ _ _ _ us hl => match us, hl with | [_, _], _ => rfl
  have Gone : Got P w K mg base 3 "_law_one_of" ["_law_purse_here", "_law_some"] spOne := ⟨⟨_, _, ok_one F21 (ok_draw F19 F18 g18 m_int m_range) b19 F19.kp g19 m_len, b21, F21.kp, g21⟩⟩
  have b20 := FunD.bindsN (ps := ["_law_script", "_law_few"]) F20 fun _ _ _ _ _ _ us hl => match us, hl with | [_, _], _ => rfl
  have Gpu : Got P w K mg base 2 "_law_purses" ["_law_script", "_law_few"] (spPurses K) := ⟨⟨_, _, ok_purses F20 F17 g17 m_sum m_int m_max m_min m_len m_range, b20, F20.kp, g20⟩⟩
  have b22 := FunD.bindsN (ps := pEx) F22 fun _ _ _ _ _ _ us hl => match us, hl with | [_, _], _ => rfl
  have Gex : ∀ n, Got P w K mg base (n + 1) "_law_exact" pEx (spEx n) := fun n => by
    induction n with
    | zero => exact ⟨⟨_, _, ok_ex0 F22, b22, F22.kp, g22⟩⟩
    | succ n ih => exact ⟨⟨_, _, ok_ex_step F22 ih m_isinstance m_len m_all m_zip m_list m_tuple m_dict m_bool, b22, F22.kp, g22⟩⟩
  have b23 := FunD.bindsN (ps := []) F23 fun _ _ _ _ _ _ us hl => match us, hl with | [], _ => rfl
  have Gae : Got P w K mg base 1 "_law_all_effects" [] spAE := ⟨⟨_, _, ok_alle F23 m_range, b23, F23.kp, g23⟩⟩
  have b24 := FunD.bindsN (ps := ["_law_effect", "_law_ahead", "_law_behind"]) F24 fun _ _ _ _ _ _ us hl => match us, hl with | [_, _, _], _ => rfl
  have Gsm : Got P w K mg base 1 "_law_sum" ["_law_effect", "_law_ahead", "_law_behind"] spSm := ⟨⟨_, _, ok_sm F24 m_len, b24, F24.kp, g24⟩⟩
  have b25 := FunD.bindsN (ps := ["_law_one", "_law_other", "_law_most"]) F25 fun _ _ _ _ _ _ us hl => match us, hl with | [_, _, _], _ => rfl
  have Gpd : Got P w K mg base 2 "_law_parted" ["_law_one", "_law_other", "_law_most"] spPd := ⟨⟨_, _, ok_pd F25 Gsm m_range, b25, F25.kp, g25⟩⟩
  have b29 := FunD.bindsN (ps := ["_law_value"]) F29 fun _ _ _ _ _ _ us hl => match us, hl with | [_], _ => rfl
  have Glc : Got P w K mg base 1 "_law_is_count" ["_law_value"] (spCnt K) := ⟨⟨_, _, ok_lc F29 m_isinstance m_int m_bool, b29, F29.kp, g29⟩⟩
  have b30 := FunD.bindsN (ps := []) F30 fun _ _ _ _ _ _ us hl => match us, hl with | [], _ => rfl
  have Goe : Got P w K mg base 1 "_law_odd_effects" [] spOE := ⟨⟨_, _, ok_oe F30, b30, F30.kp, g30⟩⟩
  have b26 := FunD.bindsN (ps := ["_law_way", "_law_things"]) F26 fun _ _ _ _ _ _ us hl => match us, hl with | [_, _], _ => rfl
  have Gtd : Got P w K mg base 5 "_law_told" ["_law_way", "_law_things"] (spTd K) := ⟨⟨_, _, ok_td F26 T Gwa Gap Gbe Gps m_isinstance, b26, F26.kp, g26⟩⟩
  have b27 := FunD.bindsN (ps := ["_law_told_here", "_law_word", "_law_thing"]) F27 fun _ _ _ _ _ _ us hl => match us, hl with | [_, _, _], _ => rfl
  have Gvy : Got P w K mg base 8 "_law_very" ["_law_told_here", "_law_word", "_law_thing"] spVy := ⟨⟨_, _, ok_vy F27 Gex m_isinstance m_list, b27, F27.kp, g27⟩⟩
  have GS : Gs P w K mg base := ⟨Gdr, Gone, Gae, Gsm, Gpd, Glc, Gex, Gbe, Gps, Gwa, Gap, Kbe, Kps, Kwa, Kap, m_isinstance, m_tuple, m_len, m_min, m_str⟩
  have b28 := FunD.bindsN (ps := ["_law_purse_here"]) F28 fun _ _ _ _ _ _ us hl => match us, hl with | [_], _ => rfl
  have Gpr : Got P w K mg base 5 "_law_pair_right" ["_law_purse_here"] spPR := ⟨⟨_, _, ok_pr F28 GS, b28, F28.kp, g28⟩⟩
  have b31 := FunD.bindsN (ps := []) F31 fun _ _ _ _ _ _ us hl => match us, hl with | [], _ => rfl
  have Gwr : Got P w K mg base 4 "_law_words_right" [] spTrue := ⟨⟨_, _, ok_wr F31 Gex Giw Kiw, b31, F31.kp, g31⟩⟩
  have b32 := FunD.bindsN (ps := []) F32 fun _ _ _ _ _ _ us hl => match us, hl with | [], _ => rfl
  have Gmr : Got P w K mg base 5 "_law_manners_right" [] spTrue := ⟨⟨_, _, ok_mr F32 Gex Gim Kim Goe m_range m_list, b32, F32.kp, g32⟩⟩
  have b33 := FunD.bindsN (ps := []) F33 fun _ _ _ _ _ _ us hl => match us, hl with | [], _ => rfl
  have Grr : Got P w K mg base 9 "_law_refused_right" [] spTrue := ⟨⟨_, _, ok_rr F33 Goe Gae Gie Kie Gtd Gvy, b33, F33.kp, g33⟩⟩
  exact fnG (ok_law F34 Gpu Gpr Gwr Gmr Grr m_range)
end L2.K02
set_option Elab.async false
set_option linter.all false
set_option maxRecDepth 100000
set_option maxHeartbeats 0
namespace L2.K02
open PySem PySem.Spec PyProof.Rows L2.EV
theorem runF (w : World) : HandSHeadRun.RunEq R (PySem.W.view R.prog [48]) hk ob 9000 loose (w.withFollow "special-get-raises" false) := by
  intro os
  kernel_rfl
theorem runT (w : World) : HandSHeadRun.RunEq R (PySem.W.view R.prog [48]) hk ob 9000 loose (w.withFollow "special-get-raises" true) := by
  intro os
  kernel_rfl
theorem run (w : World) : HandSHeadRun.RunEq R (PySem.W.view R.prog [48]) hk ob 9000 loose w :=
  PySem.W.byRow2 "special-get-raises" (P := fun w => HandSHeadRun.RunEq R (PySem.W.view R.prog [48]) hk ob 9000 loose w) runF runT w
end L2.K02
set_option Elab.async false
set_option linter.all false
set_option maxRecDepth 100000
set_option maxHeartbeats 0
open PySem PySem.W PySem.Calls PyProof.Rows
theorem PySem.Challenge.cw_withinbooks_k02_whole_effects_and_worth_holds : PySem.Challenge.rw_withinbooks_k02_whole_effects_and_worth.Holds := by
  w_on; o_law
  refine HandSHeadRun.head_any (r := L2.K02.R) (q := view L2.K02.R.prog [48]) (H := L2.K02.hk) (ob := L2.K02.ob) (M := 9000) (loose := L2.K02.loose) (d := HandSHeadRun.topDef L2.K02.R.prog 48) (kwd := []) L2.K02.ob_eq
    (by kernel_rfl) (fun s => by kernel_rfl) L2.K02.run (by kernel_rfl) (by kernel_rfl) (by kernel_rfl) (by rfl) (by first | assumption | decide +kernel) (by decide +kernel) ⟨rfl, rfl, rfl, rfl, rfl, by decide +kernel⟩ ?hw ?hc
  case hw => w_witness2
  case hc =>
    refine L2.EV.walk_ofG (l := PySem.Challenge.rw_withinbooks_k02_whole_effects_and_worth) (n := 63) (k := 10) (x := "_law_script") rfl (by decide) (by kernel_rfl) ⟨rfl, by decide, by decide⟩ ?F
    intro w mg fa h Y G hmg0
    obtain ⟨K, KX, c, m⟩ := Y
    have hmg : mg ("law" : PySem.Str) = some (.ref fa) := by
      have e : (HandSHeadRun.topDef L2.K02.R.prog 48).name = ("law" : PySem.Str) := by kernel_rfl
      rw [← e]
      exact hmg0
    obtain ⟨fd, hb, hF⟩ := L2.K02.facts (P := (PySem.Challenge.rw_withinbooks_k02_whole_effects_and_worth).prog) (w := w) KX G hmg c m
    exact ⟨K, fd, L2.K02.spLaw K, KX, hb, fun H a ns hl _ hS => ⟨a, ns, rfl, hS, hl, fun _ => rfl⟩, hF⟩
