import PyProof.Rows.All
import Wide.All
import OpenK.AllK
import Wide.FinOn
import KE.KExcIs
import HandS.ForMost
import HandS.ExcInit
import HandS.ExcValue
import HandS.IsInst
import HandS.Defaults
import HandS.ExcField
import PyProof.ReprRoads
import PyProof.StrLawsRepr
import PyProof.FitsInt
import HandS.Wide
import HandS.WideBits
import HandS.HeadHook2
import HandS.Style
import HandS.MakeKw
import HandS.Head2
import HandS.HeadEnd
import PySem.Challenge.RW_withinbooks_k01_errors_made
set_option Elab.async false
set_option linter.all false
set_option maxRecDepth 100000
set_option maxHeartbeats 4000000
namespace EV
open PySem PySem.W PySem.Calls PySem.HandSPX
/-- the class object of an own class of errors over ValueError's chain -/
structure Above (h : Heap) (C : Addr) : Prop where
  ex : ∃ (nm qn : Str) (N : Addr) (bs bm : List Value) (hd : Bool) (sn : List Str) (sub : List Value) (ab : Bool) (col : Option Bool) (dd : Option Addr) (k0 k1 k2 k3 k5 : Option Value),
    h.get? C = some (excClassObj nm qn C N bs bm hd sn sub ab col dd k0 k1 k2 k3 k5 "ValueError.__new__") ∧ ∀ T : String, bm.contains (.type T) = veTail.contains (.type T)
section
variable {M : Model} {prog : Program} {w : World} {A : Around} {E : Value → Shared → Prop} {R : Result → Shared → Prop}
variable {h : Heap} {g : Array GenState} {d : Drawn} {t : Nat} {os : OsState} {C fI : Addr} {us : List Value} {kw : List (Str × Value)}
abbrev two (h : Heap) (C : Addr) (us : List Value) : Heap := (h.push (W.kdv_tup us)).push (excO C h.objs.size)
theorem new_ok {Q : Unit → Shared → Prop} (c : Above h C) (hq : Q () ⟨h, g, d, t, os⟩) :
    wpAny M A (checkBuiltinCall "ValueError.__new__" ⟨.ref C :: us, kw⟩) Q E ⟨h, g, d, t, os⟩ := by
  obtain ⟨nm, qn, N, bs, bm, hd, sn, sub, ab, col, dd, k0, k1, k2, k3, k5, hC, hT⟩ := c.ex
  have F := F.excBase_ValueError
  have in_ : (Value.ref C :: bm).contains (.type "ValueError") = true := by
    rw [List.contains_cons, hT, F.hasB, Bool.or_true]
  have ns := F.noStar
  simp only [checkBuiltinCall, F.newKind, F.newSplit, F.newRow]
  repeat (first
    | refine wpAny_loadPart_at hC ?_
    | (refine wpAny_isSubtype_exc hC ?_; rw [in_])
    | refine wpAny_staticBase_exc hC ?_
    | refine wpAny_madeBy_exc hC ?_
    | simp only [bne_self_eq_false, Bool.false_eq_true, if_false]
    | wp_step)
  exact hq
theorem new_does (c : Above h C) (hu : us.length ≤ sizeLine) (hq : R (.ok (.ret (.ref (h.objs.size + 1)))) ⟨two h C us, g, d, t, os⟩) :
    codeAny (model prog w) A (.builtin "ValueError.__new__" ⟨.ref C :: us, kw⟩) R ⟨h, g, d, t, os⟩ := by
  obtain ⟨nm, qn, N, bs, bm, hd, sn, sub, ab, col, dd, k0, k1, k2, k3, k5, hC, hT⟩ := c.ex
  have F := F.excBase_ValueError
  have he := F.ends
  have cB : (Value.ref C :: bm).contains (.type "ValueError") = true := by
    rw [List.contains_cons, hT, F.hasB, Bool.or_true]
  have cA : (Value.ref C :: bm).contains (.type "AttributeError") = false := by
    rw [List.contains_cons, hT, F.noAttr]; rfl
  have cN : (Value.ref C :: bm).contains (.type "NameError") = false := by
    rw [List.contains_cons, hT, F.noName]; rfl
  refine codeAny_builtinAt F.entry ?_
  unfold Builtin.«BaseException.__new__»
  refine wpAt_bind ?_
  show wpAt _ _ _ (stack >>= _) _ _ _
  refine wpAt_bind (wpAt_stack fun p below => wpAt_of_wpAny ?_)
  wp_walk
  refine wpAt_of_wpAny ?_
  rw [F.owner]
  repeat (first
    | with_reducible refine wpAny_madeHere_exc F.canon hC ?_
    | with_reducible refine wpAny_loadPart_at hC ?_
    | (with_reducible refine wpAny_isSubtype_exc hC ?_; first | rw [cB] | rw [cA] | rw [cN])
    | wp_step)
  show R _ _
  rw [Heap.size_push]
  exact hq
theorem type_does {Q : Fin → Shared → Prop} (c : Above h C) (hi : W.Looks (model prog w) h (typeLookup (.ref C) "__init__") (some (.ref fI)))
    (hb : ∀ self, W.Looks (model prog w) h (bindSpecial (.ref fI) self) (.ref fI, [self])) (hu : us.length ≤ sizeLine)
    (hq : codeAny (model prog w) A (.call (.ref fI) ⟨.ref (h.objs.size + 1) :: us, kw⟩)
      (fun r s' => match r with
        | .ok (.ret v) => v = .none ∧ Q (.done (.ret (.ref (h.objs.size + 1)))) s'
        | .ok _ => False
        | .error e => E e s') ⟨two h C us, g, d, t, os⟩) :
    wpAny (model prog w) A (Builtin.«type.__call__» ⟨.ref C :: us, kw⟩) Q E ⟨h, g, d, t, os⟩ := by
  obtain ⟨nm, qn, N, bs, bm, hd, sn, sub, ab, col, dd, k0, k1, k2, k3, k5, hC, hT⟩ := id c.ex
  have F := F.excBase_ValueError
  repeat (first
    | with_reducible refine wpAny_loadPart_at hC ?_
    | with_reducible refine wpAny_madeBy_exc hC ?_
    | wp_step)
  refine codeAny_call_builtin_code (Code.quiet_builtin _ F.quiet) (new_ok c ?_)
  refine new_does c hu ?_
  show wpAny _ _ _ _ _ _
  have k : ∀ b o, h.get? b = some o → (two h C us).get? b = some o := fun b o e => Heap.get?_push_of_some _ (Heap.get?_push_of_some _ e)
  have hC1 := k _ _ hC
  have hget : (two h C us).get? (h.objs.size + 1) = some (excO C h.objs.size) := by heap_get
  have cC : (Value.ref C :: bm).contains (.ref C) = true := by simp
  have i1 := hi.keeps k
  have b1 := (hb (.ref (h.objs.size + 1))).keeps k
  unfold isInstance
  repeat (first
    | with_reducible refine wpAny_loadPart_at hget ?_
    | (with_reducible refine wpAny_isSubtype_exc hC1 ?_; rw [cC])
    | wp_step)
  show wpAny _ _ (typeLookup (.ref C) _) _ _ _
  refine i1.at ?_
  refine wpAny_holding (wpAny_bind (b1.at ?_))
  refine wpAny_bind (wpAny_call (codeAny_mono hq fun r s' z => ?_))
  rcases r with e | (v | _ | _ | _) <;> first | exact z | exact z.elim | skip
  obtain ⟨rfl, z⟩ := z
  first
    | exact wpAny_pure (wpAny_pure z)
    | (wp_walk; exact z)
theorem call_does (c : Above h C) (hi : W.Looks (model prog w) h (typeLookup (.ref C) "__init__") (some (.ref fI)))
    (hb : ∀ self, W.Looks (model prog w) h (bindSpecial (.ref fI) self) (.ref fI, [self])) (hu : us.length ≤ sizeLine)
    (hq : codeAny (model prog w) (A.under (.builtin "type.__call__" ⟨.ref C :: us, kw⟩)) (.call (.ref fI) ⟨.ref (h.objs.size + 1) :: us, kw⟩)
      (W.InitBack (h.objs.size + 1) R) ⟨two h C us, g, d, t, os⟩) :
    codeAny (model prog w) A (.call (.ref C) ⟨us, kw⟩) R ⟨h, g, d, t, os⟩ := by
  obtain ⟨nm, qn, N, bs, bm, hd, sn, sub, ab, col, dd, k0, k1, k2, k3, k5, hC, hT⟩ := id c.ex
  have f1 := tc_lookup
  have f2 := tc_bind (.ref C)
  have hTy : (⟨h, g, d, t, os⟩ : Shared).TypeIs (.ref C) "type" := ⟨_, hC, rfl⟩
  refine codeAny_of_tree ?_
  show wpAny _ _ (callAny (.ref C) _) _ _ _
  repeat (any_goals (first | assumption | with_reducible refine wpAny_loadPart_at hC ?_ | wp_step))
  refine ⟨rfl, ?_⟩
  refine codeAny_call_builtin_at (Code.quiet_builtin _ (by decide +kernel)) entry_typeCall (wpAny_check_type_call_sub hC ?_)
  refine type_does c hi hb hu ?_
  refine codeAny_mono hq fun r s' z => ?_
  rcases r with e | (v | _ | _ | _) <;> exact z
end
end EV
set_option Elab.async false
set_option linter.all false
set_option maxRecDepth 100000
set_option maxHeartbeats 4000000
namespace L2.EV
open PySem PySem.Spec PyProof.Rows
/-- at a: an error of the class at C, made of v -/
def ErrO (H : Hp) (a C : Addr) (v : V) : Prop := ∃ dx, H a = some (exo a C (some dx)) ∧ H dx = some (exd dx [("value", v)])
theorem ErrO.same {H H' : Hp} {a C : Addr} {v : V} (e : ErrO H a C v) (s : Same H H') : ErrO H' a C v := by
  obtain ⟨dx, h1, h2⟩ := e
  exact ⟨dx, s _ _ h1, s _ _ h2⟩
/-- what __init__ promises -/
def spInit (C : Addr) : Sp := fun vs H Q _ => ∃ (a : Addr) (v : V), vs = [.ref a, v] ∧ H a = some (exo a C none) ∧
  ∀ dx, H dx = none → dx ≠ a → Q .non (upd (upd H dx (exd dx [("value", v)])) a (exo a C (some dx)))
/-- what the written part says of such a class -/
structure Err (K : PySem.W.Frag) (C fI : Addr) : Prop where
  ox : OexC K C
  noV : PySem.W.findIn K (.ref C) "value" = some none
  iC : PySem.W.findIn K (.ref C) "__init__" = some (some (.ref fI))
  tI : PySem.W.typeIn K (.ref fI) = some (.type "function")
  xf : XfC K C
theorem Err.up {K : PySem.W.Frag} {C fI : Addr} (e : Err K C fI) {h : Heap} (X : K.In h) : _root_.EV.Above h C := by
  obtain ⟨nm, q, N, bs, bm, sn, sub, ab, col, dd, k0, k1, k2, k3, k5, hC, hbm⟩ := e.ox.cls
  exact ⟨nm, q, N, bs, bm, true, sn, sub, ab, col, dd, k0, k1, k2, k3, k5, X _ _ hC, fun T => PySem.HandSPX.refsVE_contains T bm hbm⟩
section
variable {X : Cx} {pins : List (Addr × Obj)} {σ : St} {H H1 : Hp} {s s1 : Shared} {Q : VK} {C fI : Addr} {fd : FuncData} {k : Nat} {us ws : List Value} {kw : List (Str × Value)} {v : V}
theorem run_mkV (e : Err X.K C fI) (F1 : FnOk X.prog X.w X.K X.mg X.base CX0 k fI fd ["self", "value"] (spInit C)) (hr : Room (k + 1) X.A)
    (I1 : Inv X pins σ H1 s1) (hl : us.length ≤ sizeLine) (hb : ∀ (s : Shared) (self : Value), X.K.In s.heap → BindsTo s fd ⟨self :: us, kw⟩ ((["self", "value"] : List Str).zip (self :: ws)))
    (rw : Vals [v] ws) (q : ∀ a H', Same H1 H' → H1 a = none → ErrO H' a C v → Q (.ref a) H') :
    wpAny (model X.prog X.w) X.A (call (.ref C) us kw) (EP X pins σ Q) X.xe s1 := by
  obtain ⟨hp, g, dr, tk, os⟩ := s1
  have hsz : hp.objs.size ≤ hp.objs.size + 1 := Nat.le_succ _
  have hn : H1 (hp.objs.size + 1) = none := I1.hok.fresh hsz
  have kk : ∀ b o, hp.get? b = some o → (_root_.EV.two hp C us).get? b = some o := fun b o e => Heap.get?_push_of_some _ (Heap.get?_push_of_some _ e)
  have hget : (_root_.EV.two hp C us).get? (hp.objs.size + 1) = some (PySem.HandSPX.excO C hp.objs.size) := by heap_get
  have I2 : Inv X pins σ (upd H1 (hp.objs.size + 1) (exo (hp.objs.size + 1) C none)) ⟨_root_.EV.two hp C us, g, dr, tk, os⟩ :=
    I1.laid (t' := tk) (a := hp.objs.size + 1) (o := exo (hp.objs.size + 1) C none) (h' := _root_.EV.two hp C us) kk hsz (exo_ok hget)
  have r2 : Vals ([V.ref (hp.objs.size + 1), v]) (Value.ref (hp.objs.size + 1) :: ws) := .cons rfl rw
  refine wpAny_call (_root_.EV.call_does (e.up I1.kIn) (PySem.W.looks_findIn I1.kIn e.iC) (fun self => PySem.W.bind_fn I1.kIn self e.tI) hl
    (codeAny_mono (F1.run _ X.stack _ _ ⟨Value.ref (hp.objs.size + 1) :: us, kw⟩ (Value.ref (hp.objs.size + 1) :: ws) _ (fun u H2 => u = .non ∧ Q (.ref (hp.objs.size + 1)) H2) (fun _ _ _ => False)
      (hr.make C us kw) (I2.env0.make C us kw) (hb _ _ I2.kIn) r2 ⟨hp.objs.size + 1, v, rfl, upd_same, fun dx hd ne => ⟨rfl, q _ _ (fun b o e => ?_) hn ⟨dx, upd_same, ?_⟩⟩⟩) fun r s' hq' => ?_))
  · have hd1 : H1 dx = none := by
      rw [upd_ne ne] at hd
      exact hd
    rw [upd_ne (ne_of_none e hn), upd_ne (ne_of_none e hd1), upd_ne (ne_of_none e hn)]
    exact e
  · rw [upd_ne ne, upd_same]
  · cases r with
    | error er => exact hq'.elim
    | ok fl =>
      cases fl with
      | ret u =>
        obtain ⟨y, H', I3, rv, ev, q3⟩ := I2.after hq'
        subst ev
        exact ⟨rv, ⟨V.ref (hp.objs.size + 1), H', I3, rfl, q3⟩⟩
      | next => exact hq'.elim
      | brk => exact hq'.elim
      | cont => exact hq'.elim
end
/-- all that is asked of the class of the name x -/
structure Ck (P : Program) (w : World) (K : PySem.W.Frag) (mg : Str → Option Value) (base : Heap) (x : Str) (C : Addr) : Prop where
  mgx : mg x = some (.ref C)
  ex : ∃ (fI : Addr) (fd : FuncData), Err K C fI ∧ FnOk P w K mg base CX0 1 fI fd ["self", "value"] (spInit C) ∧
    (∀ (s : Shared) (self u : Value), K.In s.heap → BindsTo s fd ⟨[self, u], []⟩ ((["self", "value"] : List Str).zip [self, u])) ∧
    (∀ (s : Shared) (self : Value), K.In s.heap → BindsTo s fd ⟨[self], []⟩ ((["self", "value"] : List Str).zip [self, .none])) ∧
    (∀ (s : Shared) (self u : Value), K.In s.heap → BindsTo s fd ⟨[self], [("value", u)]⟩ ((["self", "value"] : List Str).zip [self, u]))
/-- C(..): a new error, made of v -/
def tMkV (C : Addr) (t : TE) : TE := fun σ H Q => t σ H fun v H1 => ∀ a H', Same H1 H' → H1 a = none → ErrO H' a C v → Q (.ref a) H'
section
variable {X : Cx} {C : Addr} {x : Str} {p pos kpos : Pos} {e : Expr} {te : TE}
theorem pe_mkV (c : Ck X.prog X.w X.K X.mg X.base x C) (hr : Room 2 X.A) (he : PE X e te) (hg : Gl X x := by rfl) (hdb : (x == ("__debug__" : Str)) = false := by decide)
    (hs : starEach [e] X.env = (false, eval e X.env) :: starEach [] X.env := by rfl) : PE X (.Call (.Name x p) [e] [] pos) (tMkV C te) := by
  obtain ⟨fI, fd, E, F, b1, b0, bk⟩ := c.ex
  refine ⟨fun pins s σ H Q I h => ?_⟩
  refine wpAny_Call_Name_kw (ld_glob I hg c.mgx ?_ hdb)
  refine PySem.W.callWith_K (h₀ := X.base) I.ok.mod.kin E.ox.kC ?_ hs (by rfl)
  rw [hs]
  show wpAny _ _ (spliced ((false, eval e X.env) :: backTo pos (starEach [] X.env))) _ _ s
  refine Calls.spliced_cons (thn (he.run pins s σ H _ I h) fun u s1 ⟨v, H1, I1, r1, q1⟩ => ?_)
  refine Calls.spliced_nil ⟨I1.kIn, ?_⟩
  exact run_mkV (us := [u]) (ws := [u]) E F hr I1 (by show 1 ≤ sizeLine; rw [sizeLine_eq]; omega) (fun s self X => b1 s self u X) (.cons r1 .nil) q1
theorem pe_mkV0 (c : Ck X.prog X.w X.K X.mg X.base x C) (hr : Room 2 X.A) (hg : Gl X x := by rfl) (hdb : (x == ("__debug__" : Str)) = false := by decide) :
    PE X (.Call (.Name x p) [] [] pos) (tMkV C (tC .non)) := by
  obtain ⟨fI, fd, E, F, b1, b0, bk⟩ := c.ex
  refine ⟨fun pins s σ H Q I h => ?_⟩
  refine wpAny_Call_Name_kw (ld_glob I hg c.mgx ?_ hdb)
  refine PySem.W.callWith_K0 I.kIn E.ox.kC ?_
  exact run_mkV (us := []) (ws := [.none]) (v := .non) E F hr I (Nat.zero_le _) (fun s self X => b0 s self X) (.cons rfl .nil) h
theorem pe_mkVK (c : Ck X.prog X.w X.K X.mg X.base x C) (hr : Room 2 X.A) (he : PE X e te) (hg : Gl X x := by rfl) (hdb : (x == ("__debug__" : Str)) = false := by decide)
    (hall : (backToKw pos (keywordEach [⟨some "value", e, kpos⟩] X.env)).all (·.1.isSome) = true := by rfl)
    (hks : (backToKw pos (keywordEach [⟨some "value", e, kpos⟩] X.env)).filterMap (·.1) = (["value"] : List Str) := by rfl)
    (hpl : ((backTo pos (starEach [] X.env)).any (·.1) || (backToKw pos (keywordEach [⟨some "value", e, kpos⟩] X.env)).any (·.1.isNone)) = false := by rfl) :
    PE X (.Call (.Name x p) [] [⟨some "value", e, kpos⟩] pos) (tMkV C te) := by
  obtain ⟨fI, fd, E, F, b1, b0, bk⟩ := c.ex
  refine ⟨fun pins s σ H Q I h => ?_⟩
  refine wpAny_Call_Name_kw (ld_glob I hg c.mgx ?_ hdb)
  refine PySem.W.callWith_KW0 (h₀ := X.base) I.ok.mod.kin E.ox.kC hall ?_ hpl
  refine thn ((pk_cons he pk_nil).run pos pins s σ H (fun vs H1 => match vs with
    | [v] => ∀ a H', Same H1 H' → H1 a = none → ErrO H' a C v → Q (.ref a) H'
    | _ => False) I h) fun us s2 ⟨zs, H2, I2, rz, q2⟩ => ⟨I2.kIn, ?_⟩
  cases rz with
  | nil => exact q2.elim
  | cons r1 r2 =>
    cases r2 with
    | nil =>
      rw [hks]
      exact run_mkV (us := []) (ws := [_]) E F hr I2 (Nat.zero_le _) (fun s self X => bk s self _ X) (.cons r1 .nil) q2
    | cons _ _ => exact q2.elim
end
end L2.EV
set_option Elab.async false
set_option linter.all false
set_option maxRecDepth 100000
set_option maxHeartbeats 4000000
namespace L2.EV
open PySem PySem.Spec PyProof.Rows
/-! ### the field of an error -/
def tValV (K : PySem.W.Frag) (te : TE) : TE := fun σ H Q => te σ H fun x H1 => ∃ (a C fI : Addr) (v : V), x = .ref a ∧ Err K C fI ∧ ErrO H1 a C v ∧ Q v H1
theorem pe_valV {X : Cx} {e : Expr} {te : TE} {pos : Pos} (he : PE X e te) (hb : attributeBase e "value" X.env (eval e X.env) = eval e X.env := by rfl) :
    PE X (.Attribute e "value" pos) (tValV X.K te) := by
  refine ⟨fun pins s σ H Q I h => ?_⟩
  refine attr_of hb (thn (he.run pins s σ H _ I h) fun u s1 hh => ?_)
  obtain ⟨x, H1, I1, rx, a, C, fI, v, ex, T, ⟨dx, ha, hd⟩, q⟩ := hh
  subst ex
  obtain rfl : u = Value.ref a := rx
  obtain ⟨t1, ho⟩ := exo_at I1.hok ha
  obtain ⟨mA, hns, hr⟩ := exd_at I1.hok hd
  obtain ⟨od, hod, hl⟩ := lookIn_ns hns
  have l : List.lookup ("value" : Str) [(("value" : Str), v)] = some v := by simp [List.lookup]
  obtain ⟨y, hy, ry⟩ := RelO.some_of (v := v) (o := mA "value") (by rw [← l]; exact hr "value")
  have J : PySem.W.InstAt s1.heap a { cls := .ref C, dict := some dx, data := .fields #[.ref t1, .none, .none, .none, .bool false, .none] } C (some od) := ⟨ho, rfl, rfl, hod⟩
  exact HandSPX.exc_get I1.kIn J T.xf.ga T.xf.gg T.xf.exC (PySem.W.findObj_own T.xf.hdC T.noV rfl (by rw [hl, hy])) (handed_of ry) ⟨v, H1, I1.tok _, ry, q⟩
/-! ### isinstance of an error -/
structure Asks (K : PySem.W.Frag) (C : Addr) : Prop where
  hcl : (PySem.W.clsIn K C).isSome = true
  hga : PySem.W.findIn K (.ref C) "__getattribute__" = some (some (.builtin "BaseException.__getattribute__"))
  hgt : PySem.W.findIn K (.ref C) "__getattr__" = some none
  hsub : PySem.W.subIn K (.ref C) (.type "BaseException") = some true
  ha : PySem.W.findIn K (.ref C) "__class__" = some (some (.builtin "object.__class__"))
  hn : PySem.W.specialIn K (.builtin "object.__class__") "__get__" = some (some (.builtin "getset_descriptor.__get__"))
  ht : PySem.W.takesIn K (.builtin "object.__class__") = some true
  hm : PySem.W.mroIn K C (.type "object") = some true
/-- at a: some error of the class at C -/
def IsErr (H : Hp) (a C : Addr) : Prop := (∃ v, ErrO H a C v) ∨ H a = some (ExO (.ref C) a)
def rIsV (K : PySem.W.Frag) : List V → Hp → VK → Prop := fun xs H Q => ∃ (a C : Addr) (c : V) (cv : Value) (b : Bool), xs = [.ref a, c] ∧ IsErr H a C ∧ ClsV c cv ∧ Asks K C ∧ PySem.W.kitOne K (.ref C) cv = some b ∧ Q (.bl b) H
theorem call_isV {X : Cx} : CallR X (.builtin "isinstance") (rIsV X.K) := by
  intro pins s σ H xs us Q I r h
  obtain ⟨a, C, c, cv, b, rfl, hE, hc, T, e, q⟩ := h
  obtain ⟨u1, u2, rfl, r1, r2⟩ := vals2 r
  have e2 := hc.eq r2
  subst e2
  cases (show u1 = Value.ref a from r1)
  rcases hE with ⟨v, dx, ha, hd⟩ | ha
  · obtain ⟨t1, ho⟩ := exo_at I.hok ha
    obtain ⟨mA, hns, hr⟩ := exd_at I.hok hd
    obtain ⟨od, hod, hl⟩ := lookIn_ns hns
    have J : PySem.W.InstAt s.heap a { cls := .ref C, dict := some dx, data := .fields #[.ref t1, .none, .none, .none, .bool false, .none] } C (some od) := ⟨ho, rfl, rfl, hod⟩
    exact PySem.W.kia_one (PySem.W.kitx_exc T.hcl T.hga T.hgt T.hsub T.ha T.hn T.ht T.hm) I.kIn J e (fun z => nomatch z) fun tk => ⟨.bl b, H, I.tok tk, rfl, q⟩
  · obtain ⟨⟨oe, vs, ho, hz, hv, _⟩, _, _⟩ := I.hok a _ ha
    have J : PySem.W.InstAt s.heap a oe C none := by
      obtain ⟨oc, od, oda, osl⟩ := oe
      obtain ⟨h1, h2⟩ := hz
      dsimp only at h1 h2 hv
      subst h1 h2 hv
      exact ⟨ho, rfl, rfl, trivial⟩
    exact PySem.W.kia_one (PySem.W.kitx_exc T.hcl T.hga T.hgt T.hsub T.ha T.hn T.ht T.hm) I.kIn J e (fun z => nomatch z) fun tk => ⟨.bl b, H, I.tok tk, rfl, q⟩
/-! ### C(): an own class of errors without __init__, as a value -/
theorem pe_mkN {X : Cx} {C : Addr} {bmB : List Value} {B newId initId : String} {x : Str} {p pos : Pos} (F : ExcBaseFacts B newId initId bmB) (q : PySem.W.excIn X.K C bmB newId = true) (gC : X.mg x = some (.ref C))
    (kC : PySem.W.keepIn X.K (.ref C) = true) (hg : Gl X x := by rfl) (hdb : (x == ("__debug__" : Str)) = false := by decide) :
    PE X (.Call (.Name x p) [] [] pos) (fun _ H Q => ∀ a, H a = none → Q (.ref a) (upd H a (ExO (.ref C) a))) := by
  refine ⟨fun pins s σ H Q I h => ?_⟩
  refine wpAny_Call_Name_kw (ld_glob I hg gC ?_ hdb)
  refine PySem.W.callWith_K0 I.kIn kC ?_
  show wpAny _ _ (call (.ref C) []) _ _ _
  obtain ⟨bm, N, nm, qn, bs, hdct, sn, sub, ab, col, dd, k0, k1, k2, k3, k5, mN, hC, hN, hni, T⟩ := exc_obj I.kIn q
  refine wpAny_call_exc_subT F T hC hN hni (fun h' a hm => ?_) (by show 0 ≤ sizeLine; omega)
  have hn : H a = none := I.hok.gone hm.new
  obtain ⟨t, ht, _, _⟩ := hm.there
  exact ⟨.ref a, upd H a (ExO (.ref C) a), I.laidN hm.keeps hm.new hn (exO_ok ht ⟨rfl, rfl⟩ rfl rfl rfl (show 4 < 6 by decide)), rfl, h a hn⟩
end L2.EV
set_option Elab.async false
set_option linter.all false
set_option maxRecDepth 100000
set_option maxHeartbeats 4000000
namespace L2.EV
open PySem PySem.Spec PyProof.Rows
/-! ### data that is tracked -/
def keyD : Key → PyData
  | .inl i => .int i
  | .inr x => .str x
mutual
inductive DpX (H : Hp) : V → PyData → Prop
  | non : DpX H .non .none
  | bl (b : Bool) : DpX H (.bl b) (.bool b)
  | int (i : Int) : DpX H (.int i) (.int i)
  | str (x : Str) : DpX H (.str x) (.str x)
  | lst {a : Addr} {xs : List V} {ds : List PyData} : H a = some (.lst xs) → DpXs H xs ds → DpX H (.ref a) (.list ds)
  | tup {a : Addr} {xs : List V} {ds : List PyData} : H a = some (.tup xs) → DpXs H xs ds → DpX H (.ref a) (.tuple ds)
  | dct {a : Addr} {kvs : List (Key × V)} {ds : List PyData} : H a = some (.dK kvs) → DpXs H (kvs.map (·.2)) ds → DpX H (.ref a) (.dict ((kvs.map fun p => keyD p.1).zip ds))
inductive DpXs (H : Hp) : List V → List PyData → Prop
  | nil : DpXs H [] []
  | cons {v : V} {vs : List V} {d : PyData} {ds : List PyData} : DpX H v d → DpXs H vs ds → DpXs H (v :: vs) (d :: ds)
end
theorem DpXs.length {H : Hp} {vs : List V} {ds : List PyData} (h : DpXs H vs ds) : ds.length = vs.length := by
  induction vs generalizing ds with
  | nil => cases h; rfl
  | cons v vs ih => cases h with | cons _ t => exact congrArg Nat.succ (ih t)
mutual
theorem DpX.same {H H' : Hp} (s : Same H H') : ∀ {v : V} {d : PyData}, DpX H v d → DpX H' v d
  | _, _, .non => .non
  | _, _, .bl b => .bl b
  | _, _, .int i => .int i
  | _, _, .str x => .str x
  | _, _, .lst h t => .lst (s _ _ h) (DpXs.same s t)
  | _, _, .tup h t => .tup (s _ _ h) (DpXs.same s t)
  | _, _, .dct h t => .dct (s _ _ h) (DpXs.same s t)
theorem DpXs.same {H H' : Hp} (s : Same H H') : ∀ {vs : List V} {ds : List PyData}, DpXs H vs ds → DpXs H' vs ds
  | _, _, .nil => .nil
  | _, _, .cons h t => .cons (DpX.same s h) (DpXs.same s t)
end
/-- the keys of a dict, read -/
theorem keys_read {P : Program} {w : World} {h : Heap} : ∀ {es : List DictEntry} {vs : List (Key × Value)}, Pairs (mixKind P w) es vs →
    ∃ as : List Addr, ReadsAll h (es.map (·.key)) (vs.map fun p => keyD p.1) as ∧ as = []
  | _, _, .nil => ⟨[], .nil, rfl⟩
  | _, _, .cons (kv := (k, v)) hk he t => by
    obtain ⟨as, r, e⟩ := keys_read (h := h) t
    rcases keyIs_shape (show keyIs k _ = true from hk) with ⟨i, tk, rfl, ek⟩ | ⟨x, tk, rfl, ek⟩
    · refine ⟨[] ++ as, ?_, by rw [e]; rfl⟩
      rw [List.map_cons, ek]
      exact .cons (.int i tk) r
    · refine ⟨[] ++ as, ?_, by rw [e]; rfl⟩
      rw [List.map_cons, ek]
      exact .cons (.str x tk) r
theorem vals_of_pairs {P : Program} {w : World} : ∀ {es : List DictEntry} {vs : List (Key × Value)}, Pairs (mixKind P w) es vs → es.map (·.val) = vs.map (·.2)
  | _, _, .nil => rfl
  | _, _, .cons _ he t => by
    rw [List.map_cons, List.map_cons, he, vals_of_pairs t]
theorem kv_keys : ∀ {kvs : List (Key × V)} {vs : List (Key × Value)}, KV kvs vs → (vs.map fun p => keyD p.1) = kvs.map fun p => keyD p.1
  | _, _, .nil => rfl
  | _, _, .cons h t => by
    rw [List.map_cons, List.map_cons, h.1, kv_keys t]
theorem kv_vals : ∀ {kvs : List (Key × V)} {vs : List (Key × Value)}, KV kvs vs → Vals (kvs.map (·.2)) (vs.map (·.2))
  | _, _, .nil => .nil
  | _, _, .cons h t => .cons h.2 (kv_vals t)
theorem zip_fst {α β : Type} : ∀ {xs : List α} {ys : List β}, ys.length = xs.length → (xs.zip ys).map (·.1) = xs
  | [], [], _ => rfl
  | x :: xs, y :: ys, h => by rw [List.zip_cons_cons, List.map_cons, zip_fst (Nat.succ.inj h)]
theorem zip_snd {α β : Type} : ∀ {xs : List α} {ys : List β}, ys.length = xs.length → (xs.zip ys).map (·.2) = ys
  | [], [], _ => rfl
  | x :: xs, y :: ys, h => by rw [List.zip_cons_cons, List.map_cons, zip_snd (Nat.succ.inj h)]
section
variable {X : Cx} {pins : List (Addr × Obj)} {σ : St} {H : Hp} {s : Shared}
mutual
theorem DpX.reads (I : Inv X pins σ H s) : ∀ {v : V} {d : PyData} (u : Value), DpX H v d → RelV v u → ∃ as, Reads s.heap u d as ∧ ∀ b ∈ as, H b ≠ none
  | _, _, _, .non, r => by cases r; exact ⟨_, .none, fun _ z => nomatch z⟩
  | _, _, _, .bl b, r => by cases r; exact ⟨_, .bool b, fun _ z => nomatch z⟩
  | _, _, _, .int i, r => by obtain ⟨t, rfl⟩ := r; exact ⟨_, .int i t, fun _ z => nomatch z⟩
  | _, _, _, .str x, r => by obtain ⟨t, rfl⟩ := r; exact ⟨_, .str x t, fun _ z => nomatch z⟩
  | _, _, _, .lst (a := a) (xs := xs) h t, r => by
    cases r
    obtain ⟨_, its, n, rv, e⟩ := (show ObjOk X.prog X.w H s.heap a (.lst xs) from I.hok a _ h)
    obtain ⟨as, q, k⟩ := DpXs.reads I its t rv
    refine ⟨a :: as, .list e rfl rfl q, fun b hb => ?_⟩
    rcases List.mem_cons.mp hb with e | hb
    · rw [e, h]; exact fun z => nomatch z
    · exact k b hb
  | _, _, _, .tup (a := a) (xs := xs) h t, r => by
    cases r
    obtain ⟨_, its, rv, o, e1, e2, n, e3⟩ := (show ObjOk X.prog X.w H s.heap a (.tup xs) from I.hok a _ h)
    obtain ⟨as, q, k⟩ := DpXs.reads I its t rv
    exact ⟨as, .tuple e1 e2 e3 q, k⟩
  | _, _, _, .dct (a := a) (kvs := kvs) (ds := ds) h t, r => by
    cases r
    obtain ⟨_, _, vs, rk, o, es, ep, e1, e2, e3, _, pr, _⟩ := (show ObjOk X.prog X.w H s.heap a (.dK kvs) from I.hok a _ h)
    obtain ⟨ks, q1, ek⟩ := keys_read (h := s.heap) pr
    obtain ⟨as, q2, k⟩ := DpXs.reads I _ t (kv_vals rk)
    have hl : ds.length = (kvs.map fun p => keyD p.1).length := by rw [t.length, List.length_map, List.length_map]
    refine ⟨a :: ks ++ as, .dict e1 e2.1 e3 (by rw [zip_fst hl, ← kv_keys rk]; exact q1) (by rw [zip_snd hl, vals_of_pairs pr]; exact q2), fun b hb => ?_⟩
    subst ek
    rcases List.mem_cons.mp (show b ∈ a :: as from hb) with e | hb
    · rw [e, h]; exact fun z => nomatch z
    · exact k b hb
theorem DpXs.reads (I : Inv X pins σ H s) : ∀ {vs : List V} {ds : List PyData} (us : List Value), DpXs H vs ds → Vals vs us → ∃ as, ReadsAll s.heap us ds as ∧ ∀ b ∈ as, H b ≠ none
  | _, _, _, .nil, r => by cases r; exact ⟨_, .nil, fun _ z => nomatch z⟩
  | _, _, _, .cons h t, r => by
    cases r with
    | cons r1 r2 =>
      obtain ⟨as, q1, k1⟩ := DpX.reads I _ h r1
      obtain ⟨bs, q2, k2⟩ := DpXs.reads I _ t r2
      exact ⟨as ++ bs, .cons q1 q2, fun b hb => (List.mem_append.mp hb).elim (k1 b) (k2 b)⟩
end
end
/-! ### repr -/
def rRepr : List V → Hp → VK → Prop := fun xs H Q => ∃ (x : V) (d : PyData), xs = [x] ∧ DpX H x d ∧ d.showable = true ∧ d.shown.length ≤ sizeLine ∧ d.depth ≤ 60 ∧ Q (.str d.shown) H
theorem call_repr {X : Cx} (hg : X.A.guards = some []) (hu : X.A.units + 64 < cLine) (hs : (X.K.lookup sysModules).isSome = true) : CallR X (.builtin "repr") rRepr := by
  intro pins s σ H xs us Q I r h
  obtain ⟨x, d, rfl, D, sh, hl, hd, q⟩ := h
  cases r with
  | cons r1 r2 =>
    cases r2
    have no : H sysModules = none := by
      obtain ⟨o, e⟩ := Option.isSome_iff_exists.mp hs
      exact (I.bs sysModules o (I.ok.mod.kin _ _ e)).2
    obtain ⟨as, rd, k⟩ := D.reads I _ r1
    have hsm : d.hasDict = true → sysModules ∉ as := fun _ z => k _ z no
    show wpAny _ _ (call (.builtin "repr") [_]) _ _ _
    cases D with
    | non => cases r1; exact PySem.P.repr_of_none ⟨.str _, H, I.tok _, ⟨_, rfl⟩, q⟩
    | bl b =>
      cases r1
      exact PySem.P.repr_of_bool ⟨.str _, H, I.tok _, ⟨_, rfl⟩, q⟩
    | int i =>
      obtain ⟨t, rfl⟩ := r1
      exact PySem.P.repr_of_int (by simpa [PyData.showable] using sh) ⟨.str _, H, I.tok _, ⟨_, rfl⟩, q⟩
    | str y =>
      obtain ⟨t, rfl⟩ := r1
      exact PySem.P.repr_of_str ⟨.str _, H, I.tok _, ⟨_, rfl⟩, q⟩ hl
    | lst h t =>
      cases r1
      exact repr_of_reads' rd sh hsm hg (by omega) (fun _ _ e => e) (fun h' u tk kp => ⟨.str _, H, I.kept kp, ⟨_, rfl⟩, q⟩) hl
    | tup h t =>
      cases r1
      exact repr_of_reads' rd sh hsm hg (by omega) (fun _ _ e => e) (fun h' u tk kp => ⟨.str _, H, I.kept kp, ⟨_, rfl⟩, q⟩) hl
    | dct h t =>
      cases r1
      exact repr_of_reads' rd sh hsm hg (by omega) (fun _ _ e => e) (fun h' u tk kp => ⟨.str _, H, I.kept kp, ⟨_, rfl⟩, q⟩) hl
end L2.EV
set_option Elab.async false
set_option linter.all false
set_option maxRecDepth 100000
set_option maxHeartbeats 4000000
namespace L2.EV
open PySem PySem.Spec PyProof.Rows
/-! ### how long a shown thing is at most -/
theorem len_app (a b : Str) : (a ++ b).length = a.length + b.length := PySem.Str.length_append a b
theorem list_le : ∀ ts : List Str, (listText ts).length ≤ piled ts + 2
  | [] => by decide +kernel
  | t :: r => by
    unfold listText
    show ((textFrom 1 (("[" : Str) ++ (if 0 > 0 then ", " else "" : String) ++ t) r) ++ ("]" : Str)).length ≤ _
    rw [len_app, textFrom_length_pos _ _ _ (by omega), len_app, len_app, piled_cons]
    have e1 : ("[" : Str).length = 1 := rfl
    have e2 : ((if 0 > 0 then ", " else "" : String) : Str).length = 0 := rfl
    have e3 : ("]" : Str).length = 1 := rfl
    omega
theorem join_le (ts : List Str) : (Str.join ", " ts).length ≤ piled ts := by
  by_cases h : ts = []
  · subst h; decide +kernel
  · have := join_length_add ts h
    omega
theorem tuple_le (ts : List Str) : (tupleText ts).length ≤ piled ts + 3 := by
  unfold tupleText
  rw [len_app, len_app]
  have e1 : ("(" : Str).length = 1 := rfl
  have e2 : ((if ts.length == 1 then ",)" else ")" : String) : Str).length ≤ 2 := by split <;> decide +kernel
  have := join_le ts
  omega
theorem dict_le (ts : List Str) : (dictText ts).length ≤ piled ts + 2 := by
  unfold dictText
  rw [len_app, len_app]
  have e1 : ("{" : Str).length = 1 := rfl
  have e2 : ("}" : Str).length = 1 := rfl
  have := join_le ts
  omega
/-- codes that repr knows -/
def Codes (x : Str) : Prop := ∀ c ∈ x.cps.toList, c < 16 ^ 8
theorem str_le {x : Str} (h : Codes x) : (PyData.str x).shown.length ≤ 10 * x.length + 2 := by
  show (reprText x).length ≤ _
  exact PySem.StrLaws.reprText_len x h
/-! ### a def's promise where no repr is under way -/
structure FnG (P : Program) (w : World) (K : PySem.W.Frag) (mg : Str → Option Value) (base : Heap) (k : Nat) (f : Addr) (fd : FuncData) (ps : List Str) (sp : Sp) : Prop where
  len : ∀ vs H Q E, sp vs H Q E → vs.length = ps.length
  run : ∀ (A : Around) (outer : List Env) (s : Shared) (H : Hp) (args : Args) (us : List Value) (vs : List V) (Q : VK) (E : XK),
    A.guards = some [] → Room k A → Env0 P w K mg base A outer s H → BindsTo s fd args (ps.zip us) → Vals vs us → sp vs H Q E →
    codeAny (model P w) A (.call (.ref f) args) (CR CX0 outer P w H s Q E) s
section
variable {P : Program} {w : World} {K : PySem.W.Frag} {mg : Str → Option Value} {base : Heap} {x qual : Str} {params : Arguments} {body : List Stmt} {scope : Scope} {f : Addr} {fd : FuncData}
theorem fnG_of {dvs : List V} {kws : List (Str × V)} {N ps : List Str} {k : Nat} {sp : Sp} (F : FunD K x qual params body scope dvs kws f fd) (S : FnScope N ps scope)
    (len : ∀ vs H Q E, sp vs H Q E → vs.length = ps.length)
    (hbody : ∀ (cdv : Value) (A : Around) (outer : List Env) (s : Shared) (H : Hp) (vs : List V) (Q : VK) (E : XK), A.guards = some [] →
      Room k (A.deeper (envOfC qual scope s.heap.objs.size f cdv)) → sp vs H Q E →
      ∃ t, PSs (cxOf CX0 P w K mg base N qual scope f cdv A outer s H E) body t ∧ t { nx := fun _ H' => Q .non H', rt := Q } (start N vs) H) :
    FnG P w K mg base (k + 1) f fd ps sp := by
  obtain ⟨oc, od, dV, kV, doc, pm, an, cdv, ct, osl, rfl, lk, hcd, _, _⟩ := F.ex
  refine ⟨len, fun A outer s H args us vs Q E hgd hr e0 hb r hsp => ?_⟩
  have hl := len _ _ _ _ hsp
  have kin : K.In s.heap := PySem.W.Frag.In.keeps e0.mod.kin fun b o e => (e0.bs b o e).1
  have nolim : s.heap.NoLimit := Heap.NoLimit.keeps e0.mod.nolimit fun b o e => (e0.bs b o e).1
  have kinds : ∀ y ∈ ps.zip us, scope.names.lookup y.1 = some .local ∨
      (scope.names.lookup y.1 = some .cell ∧ ((cellsFrom (s.heap.objs.size + 1) scope.names []).lookup y.1).isSome = true) := by
    rintro ⟨n, v⟩ hy
    exact (S.par n (List.of_mem_zip hy).1).imp id fun q => ⟨q, PySem.W.cellsFrom_some _ _ _ (.inl q)⟩
  refine codeAny_call_function hr.depth (kin _ _ lk) rfl S.co S.gen rfl (PySem.W.codeRec_of kin hcd) (hb _ _ _ _ ?_)
  refine wpAny_newFunctionEnv_cells S.kind kinds fun env he s1 z => ?_
  subst he
  refine ⟨nolim.keeps z.toInCall.keep, codeAny_func ?_⟩
  obtain ⟨t, ht, hq⟩ := hbody cdv A outer s H vs Q E hgd (hr.deeper _) hsp
  have I0 := inv_start (CX := CX0) (E := E) S hr.hd e0 hl r z
  refine wpAny_mono (ht.run [] s1 _ H _ I0 hq) (fun fl s' hs => ?_) fun e s' hs => hs
  cases fl with
  | ret u =>
    obtain ⟨v, σ', H', J, rv, q⟩ := hs
    exact ⟨v, H', J.os, J.bare, J.base, J.hok, rv, q⟩
  | next =>
    obtain ⟨σ', H', J, q⟩ := hs
    exact ⟨.non, H', J.os, J.bare, J.base, J.hok, rfl, q⟩
  | brk => obtain ⟨_, _, _, q⟩ := hs; exact q.elim
  | cont => obtain ⟨_, _, _, q⟩ := hs; exact q.elim
end
section
variable {X : Cx} {k : Nat} {f : Addr} {fd : FuncData} {ps : List Str} {sp : Sp} {x : Str} {p pos : Pos} {e : Expr} {es : List Expr} {t : TA}
/-- f(e, ..) -/
theorem pe_callG (F : FnG X.prog X.w X.K X.mg X.base k f fd ps sp) (hgd : X.A.guards = some []) (hr : Room k X.A) (hg : Gl X x) (hm : X.mg x = some (.ref f)) (hk : PySem.W.keepIn X.K (.ref f) = true) (hb : Binds X.K fd ps [])
    (ha : PA X (e :: es) t) (hdb : (x == ("__debug__" : Str)) = false := by decide) (he : starEach (e :: es) X.env = (false, eval e X.env) :: starEach es X.env := by rfl) (hpl : (backTo pos (starEach es X.env)).any (·.1) = false := by rfl) :
    PE X (.Call (.Name x p) (e :: es) [] pos) (tCall sp [] E0 t) := by
  refine ⟨fun pins s σ H Q I h => ?_⟩
  refine wpAny_Call_Name_kw (ld_glob I hg hm ?_ hdb)
  refine PySem.W.callWith_K (h₀ := X.base) I.ok.mod.kin hk (thn (ha.run pos pins s σ H _ I h) fun us s1 ⟨vs, H1, I1, r, q⟩ => ⟨I1.kIn, ?_⟩) he hpl
  have q : sp (vs ++ []) H1 Q E0 := q
  rw [List.append_nil] at q
  have hl : (us ++ []).length = ps.length := by rw [List.append_nil, ← r.length]; exact F.len _ _ _ _ q
  have bt := hb s1 us I1.kIn hl
  rw [List.append_nil] at bt
  refine wpAny_call (codeAny_mono (F.run X.A X.stack s1 H1 ⟨us, []⟩ us vs Q E0 hgd hr I1.env0 bt r q) fun r' s' z => ?_)
  cases r' with
  | error er => exact z.elim
  | ok fl =>
    cases fl with
    | ret u => exact I1.after z
    | next => exact z.elim
    | brk => exact z.elim
    | cont => exact z.elim
end
/-! ### the law's call: the script is tracked (or written), nothing else -/
section
variable {P : Program} {w : World} {K : PySem.W.Frag} {mg mb : Str → Option Value} {k : Nat} {fa a : Addr} {fd : FuncData} {x : Str} {sp : Sp} {s1 : Shared} {us : List Value} {ns : List Int}
abbrev Told (s1 : Shared) (r : Result) (s' : Shared) : Prop := r = .ok (.ret (.bool true)) ∧ OldK s1.heap s'.heap ∧ s'.os = s1.os ∧ AllBare s'.gens
abbrev scr (us : List Value) : Obj := { cls := .type "list", data := .seq us.toArray }
theorem law_at (H : Hp) (KX : K.In s1.heap) (hns : s1.heap.Ns mainGlobals mg) (hb : s1.heap.Ns builtinsNs mb) (hbb : ∀ x : Str, x ≠ "__name__" → mb x = bootBuiltins x)
    (hlim : s1.heap.NoLimit) (hg : s1.gens = #[]) (ha : s1.heap.get? a = some (scr us)) (hr : Room k callerA)
    (F : ∀ base : Heap, K.In base → base.Ns mainGlobals mg → FnG P w K mg base k fa fd [x] sp) (hbind : ∀ (s : Shared) (u : Value), BindsTo s fd ⟨[u], []⟩ [(x, u)])
    (hsp : sp [.ref a] H (fun v _ => v = .bl true) fun _ _ _ => False) (hO : Only H) (hok : HOk P w H s1.heap) (hA : ∀ b, H b ≠ none → b = a) (hK : H a ≠ none → K.lookup a = none) :
    codeAny (model P w) callerA (.call (.ref fa) ⟨[.ref a], []⟩) (Told s1) s1 := by
  -- what is not tracked stands below
  have at_a : ∀ {b : Addr}, H b ≠ none → b = a := fun {b} z => hA b z
  have dict_free : ∀ {b : Addr} {o : Obj} {es : Array DictEntry} {ep : Nat}, s1.heap.get? b = some o → o.data = .dict es ep → H b = none := by
    intro b o es ep e hd
    by_cases z : H b = none
    · exact z
    · rw [at_a z, ha] at e
      have e' := Option.some.inj e
      subst e'
      cases hd
  have ns_low : ∀ {b : Addr} {m : Str → Option Value}, s1.heap.Ns b m → (hidT s1.heap H).Ns b m := by
    rintro b m ⟨o, es, ep, e, d, r⟩
    exact ⟨o, es, ep, hidT_get e (dict_free e d), d, r⟩
  have k_low : K.In (hidT s1.heap H) := fun b o e => hidT_get (KX b o e) (by
    by_cases z : H b = none
    · exact z
    · have eb := at_a z
      rw [eb] at z e
      rw [hK z] at e
      cases e)
  obtain ⟨mc, l1, l2⟩ := hlim
  have md : Mod K mg (hidT s1.heap H) := ⟨k_low, ns_low hns, ⟨mb, ns_low hb, hbb⟩, ⟨mc, ns_low l1, l2⟩⟩
  have e0 : Env0 P w K mg (hidT s1.heap H) callerA [] s1 H :=
    ⟨rfl, md, fun b o e => of_hidT e, Nat.le_of_eq (hidT_size _ _), trivial, fun b z => (nomatch (show b ∈ ([] : List Addr) from z)), hok, .of_eq hg⟩
  refine codeAny_mono ((F _ k_low (ns_low hns)).run callerA [] s1 H ⟨[.ref a], []⟩ [.ref a] [.ref a] _ _ rfl hr e0 (hbind s1 (.ref a)) (.cons rfl .nil) hsp) fun r s' h => ?_
  cases r with
  | error e => exact h.elim
  | ok fl =>
    cases fl with
    | next => exact h.elim
    | brk => exact h.elim
    | cont => exact h.elim
    | ret u =>
      obtain ⟨v, H', os, bare, un, hok', r', q⟩ := h
      have q' : v = .bl true := q
      subst q'
      cases (show u = Value.bool true from r')
      refine ⟨rfl, OldK.of_keep fun b o e => ?_, os, bare⟩
      cases q : H b with
      | none => exact un.keep b o e q (fun z => nomatch (show b ∈ ([] : List Addr) from z)) (fun z => nomatch z)
      | some u =>
        rcases hO b with z | ⟨ob, xs, z⟩
        · rw [q] at z
          cases z
        · have f1 := (hok b _ z).1
          have f2 := (hok' b _ (un.frzs b ob _ z)).1
          rw [e] at f1
          cases f1
          exact f2
theorem law_callG (KX : K.In s1.heap) (hns : s1.heap.Ns mainGlobals mg) (hb : s1.heap.Ns builtinsNs mb) (hbb : ∀ x : Str, x ≠ "__name__" → mb x = bootBuiltins x)
    (hlim : s1.heap.NoLimit) (hg : s1.gens = #[]) (ha : s1.heap.get? a = some (scr us)) (hi : IntsAre us ns) (hl : ns.length ≤ sizeLine) (hr : Room k callerA)
    (F : ∀ base : Heap, K.In base → base.Ns mainGlobals mg → FnG P w K mg base k fa fd [x] sp) (hbind : ∀ (s : Shared) (u : Value), BindsTo s fd ⟨[u], []⟩ [(x, u)])
    (hsp : ∀ H : Hp, Only H → SqL K H a (ns.map V.int) → sp [.ref a] H (fun v _ => v = .bl true) fun _ _ _ => False) :
    codeAny (model P w) callerA (.call (.ref fa) ⟨[.ref a], []⟩) (Told s1) s1 := by
  have rv := vals_ints hi
  cases hk : K.lookup a with
  | some o =>
    have e := KX a o hk
    rw [ha] at e
    have e' := Option.some.inj e
    subst e'
    have only : Only (fun _ => none) := fun _ => .inl rfl
    exact law_at (fun _ => none) KX hns hb hbb hlim hg ha hr F hbind (hsp _ only (.inr ⟨_, us.toArray, _, hk, rfl, rfl, rfl, by rw [List.size_toArray, hi.length]; exact hl, by simpa using rv⟩)) only
      (fun _ _ z => nomatch (show (none : Option HO) = some _ from z)) (fun _ z => absurd rfl z) fun z => absurd rfl z
  | none =>
    let Hs : Hp := fun b => if b = a then some (.frz (scr us) (.lst (ns.map V.int))) else none
    have here : Hs a = some (.frz (scr us) (.lst (ns.map V.int))) := if_pos rfl
    have away : ∀ {b : Addr}, b ≠ a → Hs b = none := fun {b} z => if_neg z
    have only : Only Hs := fun b => by
      by_cases z : b = a
      · rw [z]
        exact .inr ⟨_, _, here⟩
      · exact .inl (away z)
    refine law_at Hs KX hns hb hbb hlim hg ha hr F hbind (hsp _ only (.inl (.inr ⟨_, here⟩))) only (fun b u z => ?_) (fun b z => ?_) fun _ => hk
    · by_cases eb : b = a
      · subst eb
        rw [here] at z
        cases z
        exact ⟨ha, by rw [List.length_map]; exact hl, us, _, rv, ha⟩
      · rw [away eb] at z
        cases z
    · by_cases eb : b = a
      · exact eb
      · exact absurd (away eb) z
end
theorem walk_ofG {l : PySem.W.OpenLaw} {n k : Nat} {q : Program} {loose : List Str} {XP : (Str → Option Value) → Heap → Prop} {YP : World → Heap → Prop} {d : DefRec} {x : Str}
    (hn : l.most = some n) (hn2 : n ≤ sizeLine) (hdf : d.params.defaults = []) (hr : Room k callerA)
    (F : ∀ (w : World) (mg : Str → Option Value) (fa : Addr) (h : Heap), YP w h → h.Ns mainGlobals mg → mg d.name = some (.ref fa) →
      ∃ (K : PySem.W.Frag) (fd : FuncData) (sp : Sp), K.In h ∧ (∀ (s : Shared) (u : Value), BindsTo s fd ⟨[u], []⟩ [(x, u)]) ∧
        (∀ (H : Hp) (a : Addr) (ns : List Int), ns.length ≤ n → Only H → SqL K H a (ns.map V.int) → sp [.ref a] H (fun v _ => v = .bl true) fun _ _ _ => False) ∧
        ∀ base : Heap, K.In base → base.Ns mainGlobals mg → FnG l.prog w K mg base k fa fd [x] sp) :
    PySem.W.WalkO q loose XP YP l.row.toRowW d [] (fun f vs => PySem.call f vs) := by
  refine Att.attach_call hn hdf fun w s0 s1 mg mb fa o pm cd doc a us ns G Y ho hd hcd hmg hobj hints hlen hg => ?_
  obtain ⟨K, fd, sp, KX, hb, hsp, hF⟩ := F w mg fa _ Y G.T.g hmg
  exact law_callG KX G.T.g G.T.b G.T.builtins G.T.nolimit hg hobj hints (Nat.le_trans hlen hn2) hr hF hb fun H hO hS => hsp H a ns hlen hO hS
end L2.EV
set_option Elab.async false
set_option linter.all false
set_option maxRecDepth 100000
set_option maxHeartbeats 4000000
namespace L2.K01
open PySem PySem.Spec PyProof.Rows L2.EV
def prog : Program := PySem.Challenge.pw_withinbooks_k01_errors_made
def top (i : Nat) : Stmt := prog.main.body.getD i (.Pass ⟨0, 0, 0, 0⟩)
abbrev FnP (K : PySem.W.Frag) (x : Str) (st : Stmt) (f : Addr) (fd : FuncData) : Prop := FunD K x x (defArgs st) (defBody st) (defScope st) [] [] f fd
/-! ### i ** j of greater i -/
theorem op_powX {X : Cx} : OpR X (binaryOp .Pow) (rI (fun i j => 0 ≤ j ∧ (Builtin.Int.intBits i : Int) * j ≤ 2 ^ 27) fun i j => .int (i ^ j.toNat)) :=
  opI fun _ _ _ _ _ _ _ hc q => pow_int hc.1 hc.2 q
/-! ### the mixing -/
abbrev sMix : Stmt := top 34
theorem scMix : FnScope ["_law_seed", "_law_turn", "_law_at", "_law_mixed_here"] ["_law_seed", "_law_turn", "_law_at"] (defScope sMix) := ⟨rfl, rfl, rfl, by decide +kernel, rfl, by decide +kernel, by decide +kernel⟩
def spMix : Sp := fun vs H Q _ => ∃ s t a : Int, vs = [.int s, .int t, .int a] ∧ (0 ≤ s ∧ s < 2 ^ 31) ∧ (0 ≤ t ∧ t < 2 ^ 60) ∧ (0 ≤ a ∧ a < 64) ∧ ∀ r : Int, 0 ≤ r → r < 2 ^ 31 → Q (.int r) H
section
variable {P : Program} {w : World} {K : PySem.W.Frag} {mg : Str → Option Value} {base : Heap} {f : Addr} {fd : FuncData}
theorem ok_mix (F : FnP K "_law_mixed" sMix f fd) (mI : mg "int" = none) : FnOk P w K mg base CX0 1 f fd ["_law_seed", "_law_turn", "_law_at"] spMix := by
  refine F.ok scMix (fun vs H Q E h => ?_) (fun cdv A outer s H vs Q E hr h => ?_)
  · obtain ⟨s, t, a, rfl, _⟩ := h
    rfl
  · obtain ⟨s, t, a, rfl, ⟨s0, s1⟩, ⟨t0, t1⟩, ⟨a0, a1⟩, k⟩ := h
    refine ⟨_, PSs.nox (pss_cons (ps_set (i := 3) scMix.nd rfl (Or.inl rfl) (pe_op op_add (pe_op op_mul (pv 0) pe_int) (pe_op op_mul (pe_op op_mul pe_int (pv 1)) (pv 1))))
      (pss_cons (ps_set (i := 3) scMix.nd rfl (Or.inl rfl) (pe_op op_mod (pe_callTy call_int1 (by rfl) mI (by decide +kernel) (pa_cons (pe_op op_add (pe_op op_add (pv 3) (pe_op op_mul pe_int (pv 2))) (pv 1)) pa_nil)) pe_int))
      (pss_cons (ps_set (i := 3) scMix.nd rfl (Or.inl rfl) (pe_op op_mod (pe_callTy call_int1 (by rfl) mI (by decide +kernel) (pa_cons (pe_op op_add (pe_op op_mul (pv 3) (pv 3)) pe_int) pa_nil)) pe_int))
      (pss_one (ps_ret (pe_op op_mod (pe_callTy call_int1 (by rfl) mI (by decide +kernel) (pa_cons (pe_op op_mul (pv 3) pe_int) pa_nil)) pe_int)))))), ?_⟩
    have md : ∀ (x n : Int), 0 < n → 0 ≤ x % n ∧ x % n < n := fun x n h => ⟨Int.emod_nonneg _ (by omega), Int.emod_lt_of_pos _ h⟩
    refine ⟨_, rfl, _, _, rfl, rfl, .inr ⟨by decide, by decide⟩, _, rfl, _, _, rfl, rfl, .inl ⟨by decide, by decide⟩, _, rfl, _, _, rfl, rfl, .inr ⟨by omega, by omega⟩, _, _, rfl, rfl, ?_⟩
    refine ⟨_, rfl, _, rfl, _, _, rfl, rfl, .inl ⟨by decide, by decide⟩, _, _, rfl, rfl, _, rfl, _, _, rfl, rfl, .inl ⟨_, rfl, _, _, rfl, rfl, (by show (0 : Int) < 2147483647; decide), ?_⟩⟩
    refine ⟨_, rfl, _, rfl, _, _, rfl, rfl, .inl ?_, _, _, rfl, rfl, .inl ⟨_, rfl, _, _, rfl, rfl, (by show (0 : Int) < 2147483629; decide), ?_⟩⟩
    · have z := md (s * 69069 + 104729 * t * t + 7919 * a + t) 2147483647 (by decide)
      exact ⟨by omega, by omega⟩
    refine ⟨_, rfl, _, _, rfl, rfl, .inr ⟨by decide, by decide⟩, .inl ⟨_, rfl, _, _, rfl, rfl, (by show (0 : Int) < 2147483587; decide), ?_⟩⟩
    have z := md ((((s * 69069 + 104729 * t * t + 7919 * a + t) % 2147483647 * ((s * 69069 + 104729 * t * t + 7919 * a + t) % 2147483647) + 40503) % 2147483629) * 48271) 2147483587 (by decide)
    exact k _ z.1 (Int.lt_trans z.2 (by decide))
end
end L2.K01
set_option Elab.async false
set_option linter.all false
set_option maxRecDepth 100000
set_option maxHeartbeats 4000000
namespace L2.K01
open PySem PySem.Spec PyProof.Rows L2.EV
/-! ### a purse: what is left of a great number, the seed, the turns taken (n draws at most), the place -/
def PurseAt (H : Hp) (p : Addr) (n : Nat) : Prop := ∃ c z t a : Int, H p = some (.lst [.int c, .int z, .int t, .int a]) ∧ (0 ≤ z ∧ z < 2 ^ 31) ∧ (0 ≤ t ∧ t ≤ 8 * n) ∧ (0 ≤ a ∧ a < 64)
/-- nothing but p is another thing -/
def But (p : Addr) (H H' : Hp) : Prop := ∀ b, b ≠ p → H' b = H b
theorem But.refl (p : Addr) (H : Hp) : But p H H := fun _ _ => rfl
theorem But.trans {p : Addr} {H H1 H2 : Hp} (a : But p H H1) (b : But p H1 H2) : But p H H2 := fun c h => (b c h).trans (a c h)
theorem but_upd {p : Addr} {H : Hp} {o : HO} : But p H (upd H p o) := fun _ h => upd_ne h
abbrev sDraw : Stmt := top 35
theorem scDraw : FnScope ["_law_purse_here", "_law_many", "_law_drawn", "_law_found", "_law_piece"] ["_law_purse_here", "_law_many"] (defScope sDraw) := ⟨rfl, rfl, rfl, by decide +kernel, rfl, by decide +kernel, by decide +kernel⟩
def spDraw : Sp := fun vs H Q _ => ∃ (p : Addr) (m : Int) (n : Nat), vs = [.ref p, .int m] ∧ (0 < m ∧ m < 2 ^ 200) ∧ PurseAt H p n ∧ n < 2 ^ 50 ∧
  ∀ (r : Int) (H' : Hp), 0 ≤ r → r < m → PurseAt H' p (n + 1) → But p H H' → Q (.int r) H'
section
variable {P : Program} {w : World} {K : PySem.W.Frag} {mg : Str → Option Value} {base : Heap} {f fM : Addr} {fd fdM : FuncData}
theorem ok_draw (F : FnP K "_law_draw" sDraw f fd) (FM : FnP K "_law_mixed" sMix fM fdM) (gM : mg "_law_mixed" = some (.ref fM)) (mI : mg "int" = none) (mR : mg "range" = none) :
    FnOk P w K mg base CX0 2 f fd ["_law_purse_here", "_law_many"] spDraw := by
  have GM : FnOk P w K mg base CX0 1 fM fdM ["_law_seed", "_law_turn", "_law_at"] spMix := ok_mix FM mI
  have bM : Binds K fdM ["_law_seed", "_law_turn", "_law_at"] [] := FM.bindsN fun _ _ _ _ _ _ us hl => match us, hl with | [_, _, _], _ => rfl
  refine F.ok scDraw (fun vs H Q E h => ?_) (fun cdv A outer s H vs Q E hr h => ?_)
  · obtain ⟨p, m, n, rfl, _⟩ := h
    rfl
  · obtain ⟨p, m, n, rfl, ⟨m0, m1⟩, ⟨c, z, t, a, hp, hz, ht, ha⟩, hn, k⟩ := h
    refine ⟨_, PSs.nox (pss_cons (ps_if (pt_cmpR op_gt (pe_ix ix_list (pv 0) pe_int (fun _ _ => rfl)) pe_int (nomark _))
        (pss_cons (ps_set (i := 2) scDraw.nd rfl (Or.inl rfl) (pe_op op_mod (pe_callTy call_int1 (by rfl) mI (by decide +kernel) (pa_cons (pe_ix ix_list (pv 0) pe_int (fun _ _ => rfl)) pa_nil)) (pv 1)))
        (pss_cons (ps_asg (pe_op op_fdivW (pe_ix ix_list (pv 0) pe_int (fun _ _ => rfl)) (pv 1)) (pg_sub (pv 0) pe_int set_list))
        (pss_one (ps_ret (pv 2))))) pss_nil)
      (pss_cons (ps_set (i := 3) scDraw.nd rfl (Or.inl rfl) pe_int)
      (pss_cons (ps_for PassesOwn.never rfl (pi_range1 (by rfl) mR (pa_cons (pe_op op_add pe_int (pe_op op_fdiv (pe_bits (pv 1)) pe_int)) pa_nil)) (pg_name (i := 4) scDraw.nd rfl (Or.inl rfl))
        (pss_cons (ps_asg (pe_op op_add (pe_ix ix_list (pv 0) pe_int (fun _ _ => rfl)) pe_int) (pg_sub (pv 0) pe_int set_list))
        (pss_one (ps_set (i := 3) scDraw.nd rfl (Or.inl rfl) (pe_op op_add (pe_op op_mul (pv 3) pe_int)
          (pe_call GM hr (by rfl) gM FM.kp bM .nil pass0 (pa_cons (pe_ix ix_list (pv 0) pe_int (fun _ _ => rfl)) (pa_cons (pe_ix ix_list (pv 0) pe_int (fun _ _ => rfl)) (pa_cons (pe_ix ix_list (pv 0) pe_int (fun _ _ => rfl)) pa_nil)))))))))
      (pss_one (ps_ret (pe_op op_mod (pe_callTy call_int1 (by rfl) mI (by decide +kernel) (pa_cons (pv 3) pa_nil)) (pv 1))))))), ?_⟩
    have it0 : ∀ {x0 x1 x2 x3 : V}, atI [x0, x1, x2, x3] 0 = some x0 := rfl
    have it1 : ∀ {x0 x1 x2 x3 : V}, atI [x0, x1, x2, x3] 1 = some x1 := rfl
    have it2 : ∀ {x0 x1 x2 x3 : V}, atI [x0, x1, x2, x3] 2 = some x2 := rfl
    have it3 : ∀ {x0 x1 x2 x3 : V}, atI [x0, x1, x2, x3] 3 = some x3 := rfl
    refine ⟨_, rfl, p, _, _, _, rfl, rfl, SqL.of hp, it0, _, _, rfl, rfl, _, rfl, ?_⟩
    refine ite2 (fun _ => ?_) (fun _ => ?_)
    · refine ⟨_, rfl, p, _, _, _, rfl, rfl, SqL.of hp, it0, .inl ⟨_, rfl, _, rfl, _, _, rfl, rfl, m0, ?_⟩⟩
      refine ⟨_, rfl, p, _, _, _, rfl, rfl, SqL.of hp, it0, _, rfl, _, _, rfl, rfl, wide_div (b := 200) m0 (by omega) (by decide) (by decide), ?_⟩
      refine ⟨_, rfl, p, _, _, 0, rfl, rfl, hp, rfl, _, rfl, ?_⟩
      exact k _ _ (Int.emod_nonneg _ (by omega)) (Int.emod_lt_of_pos _ m0) ⟨_, z, t, a, upd_same, hz, ⟨ht.1, by omega⟩, ha⟩ but_upd
    · have hbits : Builtin.Int.intBits m ≤ 200 := intBits_le (k := 200) (by omega)
      have hq : (0 : Int) ≤ (Builtin.Int.intBits m : Int) / 28 ∧ (Builtin.Int.intBits m : Int) / 28 ≤ 7 := ⟨by omega, by omega⟩
      refine ⟨_, rfl, m, rfl, _, _, rfl, rfl, ⟨by decide, by decide⟩, _, _, rfl, rfl, _, rfl, by omega, by omega, ?_⟩
      refine for_range (fun i σ H' => ∃ (fv : Int) (v4 : Option V), σ = [some (.ref p), some (.int m), none, some (.int fv), v4] ∧ H' p = some (.lst [.int c, .int z, .int (t + i), .int a]) ∧ But p H H')
        ⟨0, none, rfl, by simpa using hp, But.refl _ _⟩ ?_ ?_
      · rintro i σ H' hi ⟨fv, v4, rfl, h1, bt⟩
        have hi' : (i : Int) < 8 := by omega
        have h2 : upd H' p (.lst [.int c, .int z, .int (t + i + 1), .int a]) p = some (.lst [.int c, .int z, .int (t + i + 1), .int a]) := upd_same
        refine ⟨_, rfl, p, _, _, _, rfl, rfl, SqL.of h1, it2, _, _, rfl, rfl, _, rfl, p, _, _, 2, rfl, rfl, h1, rfl, ?_⟩
        refine ⟨_, rfl, _, _, rfl, rfl, .inr ⟨by decide, by decide⟩, ?_⟩
        refine ⟨_, rfl, p, _, _, _, rfl, rfl, SqL.of h2, it1, _, rfl, p, _, _, _, rfl, rfl, SqL.of h2, it2, _, rfl, p, _, _, _, rfl, rfl, SqL.of h2, it3, ?_⟩
        refine ⟨z, t + i + 1, a, rfl, hz, ⟨by omega, by omega⟩, ha, fun r r0 r1 => ?_⟩
        refine ⟨_, _, rfl, rfl, _, _, rfl, ?_, bt.trans but_upd⟩
        have e : t + (i : Int) + 1 = t + ((i + 1 : Nat) : Int) := by omega
        show upd H' p (HO.lst [V.int c, V.int z, V.int (t + (i : Int) + 1), V.int a]) p = _
        rw [upd_same, e]
      · rintro σ H' ⟨fv, v4, rfl, h1, bt⟩
        refine ⟨_, rfl, .inl ⟨_, rfl, _, rfl, _, _, rfl, rfl, m0, ?_⟩⟩
        exact k _ _ (Int.emod_nonneg _ (by omega)) (Int.emod_lt_of_pos _ m0) ⟨c, z, _, a, h1, hz, ⟨by omega, by omega⟩, ha⟩ bt
end
end L2.K01
set_option Elab.async false
set_option linter.all false
set_option maxRecDepth 100000
set_option maxHeartbeats 4000000
namespace L2.K01
open PySem PySem.Spec PyProof.Rows L2.EV
theorem same_upd {H : Hp} {p : Addr} {o : HO} (h : H p = none) : Same H (upd H p o) := fun b u e => by
  rw [upd_ne (ne_of_none e h)]
  exact e
theorem PurseAt.up {H : Hp} {p : Addr} {n m : Nat} (h : PurseAt H p n) (hm : n ≤ m) : PurseAt H p m := by
  obtain ⟨c, z, t, a, h1, h2, h3, h4⟩ := h
  exact ⟨c, z, t, a, h1, h2, ⟨h3.1, by omega⟩, h4⟩
theorem PurseAt.same {H H' : Hp} {p : Addr} {n : Nat} (h : PurseAt H p n) (s : Same H H') : PurseAt H' p n := by
  obtain ⟨c, z, t, a, h1, h2⟩ := h
  exact ⟨c, z, t, a, s _ _ h1, h2⟩
theorem PurseAt.but {H H' : Hp} {p q : Addr} {n : Nat} (h : PurseAt H p n) (s : But q H H') (ne : p ≠ q) : PurseAt H' p n := by
  obtain ⟨c, z, t, a, h1, h2⟩ := h
  exact ⟨c, z, t, a, (s p ne).trans h1, h2⟩
theorem PurseAt.some {H : Hp} {p : Addr} {n : Nat} (h : PurseAt H p n) : ∃ o, H p = some o := by
  obtain ⟨c, z, t, a, h1, h2⟩ := h
  exact ⟨_, h1⟩
/-! ### one purse -/
abbrev sPurse : Stmt := top 33
theorem scPurse : FnScope ["_law_script", "_law_at", "_law_seed"] ["_law_script", "_law_at"] (defScope sPurse) := ⟨rfl, rfl, rfl, by decide +kernel, rfl, by decide +kernel, by decide +kernel⟩
def spPurse (K : PySem.W.Frag) : Sp := fun vs H Q _ => ∃ (a : Addr) (ns : List Int) (i : Int), vs = [.ref a, .int i] ∧ SqL K H a (ns.map V.int) ∧ (0 ≤ i ∧ i < 64) ∧
  ∀ (p : Addr) (H' : Hp), PurseAt H' p 0 → Same H H' → H p = none → Q (.ref p) H'
theorem cutV_ints (ns : List Int) (lo hi : Option Int) : ∃ ms : List Int, cutV (ns.map V.int) lo hi = ms.map V.int :=
  ⟨(ns.drop (HT.sIx (ns.map V.int).length 0 lo)).take (HT.sIx (ns.map V.int).length (ns.map V.int).length hi - HT.sIx (ns.map V.int).length 0 lo), by
    unfold cutV
    rw [List.map_take, List.map_drop]⟩
section
variable {P : Program} {w : World} {K : PySem.W.Frag} {mg : Str → Option Value} {base : Heap} {f fP fD : Addr} {fd fdP fdD : FuncData}
theorem ok_purse (F : FnP K "_law_purse" sPurse f fd) (mS : mg "sum" = none) (mI : mg "int" = none) (mM : mg "max" = none) :
    FnOk P w K mg base CX0 1 f fd ["_law_script", "_law_at"] (spPurse K) := by
  refine F.ok scPurse (fun vs H Q E h => ?_) (fun cdv A outer s H vs Q E hr h => ?_)
  · obtain ⟨a, ns, i, rfl, _⟩ := h
    rfl
  · obtain ⟨a, ns, i, rfl, hS, hi, k⟩ := h
    refine ⟨_, PSs.nox (pss_cons (ps_set (i := 2) scPurse.nd rfl (Or.inl rfl) (pe_callB (cr_sum rfl) (by rfl) mS (by decide +kernel) (pa_cons (pe_slice sl_list (pv 0) (po_some (pv 1)) (po_some (pe_op op_add (pv 1) pe_int))) pa_nil)))
      (pss_one (ps_ret (pe_lst (pa_cons (pe_op op_mod (pe_callTy call_int1 (by rfl) mI (by decide +kernel) (pa_cons (pe_callB (call_max2 rfl) (by rfl) mM (by decide +kernel) (pa_cons (pe_op op_sub (pv 2) (pe_op op_powX pe_int pe_int)) (pa_cons pe_int pa_nil))) pa_nil)) (pe_op op_powX (pe_op op_powX pe_int pe_int) pe_int))
        (pa_cons (pe_op op_mod (pe_callTy call_int1 (by rfl) mI (by decide +kernel) (pa_cons (pv 2) pa_nil)) pe_int) (pa_cons pe_int (pa_cons (pv 1) pa_nil)))))))), ?_⟩
    obtain ⟨ms, hms⟩ := cutV_ints ns (some i) (some (i + 1))
    refine ⟨_, rfl, _, rfl, _, rfl, _, rfl, _, _, rfl, rfl, _, rfl, _, _, rfl, hS, fun l hl => ?_⟩
    have s1 := same_upd (o := .lst (cutV (ns.map V.int) (some i) (some (i + 1)))) hl
    refine ⟨l, ms, rfl, SqL.of (by rw [← hms]; exact upd_same), ?_⟩
    refine ⟨_, rfl, _, _, rfl, rfl, ⟨by decide, by decide +kernel⟩, _, _, rfl, rfl, _, _, rfl, .inl ⟨_, rfl, _, _, rfl, rfl, ⟨by decide, by decide +kernel⟩, _, _, rfl, rfl, ⟨by decide, by decide +kernel⟩, _, _, rfl, rfl, (by show (0 : Int) < ((10 : Int) ^ (60 : Int).toNat) ^ (8 : Int).toNat; decide +kernel), ?_⟩⟩
    refine ⟨_, rfl, .inl ⟨_, rfl, _, _, rfl, rfl, (by show (0 : Int) < 2147483629; decide), _, rfl, (by show 4 ≤ sizeLine; decide), fun p hp => ?_⟩⟩
    refine k p _ ⟨_, _, _, _, upd_same, ⟨Int.emod_nonneg _ (by decide), Int.lt_trans (Int.emod_lt_of_pos _ (by decide)) (by decide)⟩, ⟨by decide, by decide⟩, hi⟩ (s1.trans (same_upd hp)) (s1.free hp)
end
/-! ### the purses -/
abbrev sPurses : Stmt := top 36
abbrev nPurses : List Str := ["_law_script", "_law_few", "_law_at"]
theorem scPurses : FnScope nPurses ["_law_script", "_law_few"] (defScope sPurses) := ⟨rfl, rfl, rfl, by decide +kernel, rfl, by decide +kernel, by decide +kernel⟩
def spPurses (K : PySem.W.Frag) : Sp := fun vs H Q _ => ∃ (a : Addr) (ns : List Int) (c : Int), vs = [.ref a, .int c] ∧ SqL K H a (ns.map V.int) ∧ ns.length ≤ 63 ∧ (0 ≤ c ∧ c < 64) ∧
  ∀ (l : Addr) (ps : List Addr) (H' : Hp), ps.length ≤ 64 → H' l = some (.lst (ps.map V.ref)) → (∀ p ∈ ps, PurseAt H' p 0 ∧ p ≠ l) → Same H H' → Q (.ref l) H'
section
variable {P : Program} {w : World} {K : PySem.W.Frag} {mg : Str → Option Value} {base : Heap} {f fP fD : Addr} {fd fdP fdD : FuncData}
theorem ok_purses (F : FnP K "_law_purses" sPurses f fd) (FP : FnP K "_law_purse" sPurse fP fdP) (gP : mg "_law_purse" = some (.ref fP)) (mS : mg "sum" = none) (mI : mg "int" = none) (mM : mg "max" = none) (mN : mg "min" = none) (mL : mg "len" = none) (mR : mg "range" = none) :
    FnOk P w K mg base CX0 2 f fd ["_law_script", "_law_few"] (spPurses K) := by
  have GP : FnOk P w K mg base CX0 1 fP fdP ["_law_script", "_law_at"] (spPurse K) := ok_purse FP mS mI mM
  have bP : Binds K fdP ["_law_script", "_law_at"] [] := FP.bindsN fun _ _ _ _ _ _ us hl => match us, hl with | [_, _], _ => rfl
  refine F.ok scPurses (fun vs H Q E h => ?_) (fun cdv A outer s H vs Q E hr h => ?_)
  · obtain ⟨a, ns, c, rfl, _⟩ := h
    rfl
  · obtain ⟨a, ns, c, rfl, hS, hl63, hc, k⟩ := h
    refine ⟨_, PSs.nox (pss_one (ps_ret (pe_lc (own := [("_law_at", 2)]) (g := gName 2) (tt := tYes) (by rfl) scPurses.nd
      (pi_range1 (by rfl) mR (pa_cons (pe_callB (call_max2 rfl) (by rfl) mM (by decide +kernel) (pa_cons pe_int (pa_cons (pe_callB (call_min2 rfl) (by rfl) mN (by decide +kernel) (pa_cons (pv 1) (pa_cons (pe_callB call_len_seq (by rfl) mL PySem.boot_len (pa_cons (pv 0) pa_nil)) pa_nil))) pa_nil))) pa_nil))
      (blkOk_by (own := [("_law_at", 2)]) (N := nPurses) (sc := defScope sPurses) (by decide +kernel)) (fun _ _ _ _ _ => pg_name (i := 2) scPurses.nd rfl (Or.inl rfl)) (fun _ _ _ _ _ => pts_nil)
      (fun _ _ _ _ _ => pe_call GP hr (by rfl) gP FP.kp bP .nil pass0 (pa_cons (pv 0) (pa_cons (pv 2) pa_nil)))))), ?_⟩
    refine ⟨_, rfl, _, rfl, a, _, rfl, .inl hS, _, _, rfl, _, _, rfl, ?_⟩
    rw [List.length_map]
    generalize hj : (if (if (ns.length : Int) < c then (ns.length : Int) else c) > 1 then (if (ns.length : Int) < c then (ns.length : Int) else c) else 1) = j
    have hj1 : 1 ≤ j ∧ j ≤ 64 := by
      rw [← hj]
      split <;> split <;> omega
    refine ⟨j, rfl, by omega, by omega, fun D hD => ?_⟩
    refine lc_range (lo := 0) (n := j.toNat) (fun i H' => ∃ ps : List Addr, ps.length = i ∧ H' D = some (.lst (ps.map V.ref)) ∧ (∀ p ∈ ps, PurseAt H' p 0 ∧ p ≠ D) ∧ Same H H')
      ⟨[], rfl, upd_same, (fun _ z => absurd z List.not_mem_nil), same_upd hD⟩ ?_ ?_
    · rintro i H' hi ⟨ps, hlen, hl, hp, s1⟩
      refine ⟨rfl, ?_⟩
      dsimp only [tYes]
      rw [if_pos rfl]
      refine ⟨_, rfl, _, rfl, a, ns, _, rfl, s1.seq hS, ⟨by omega, by omega⟩, fun p H2 h1 s2 hn => ?_⟩
      have hl2 := s2 _ _ hl
      have ne : p ≠ D := by
        intro e
        rw [e, hl] at hn
        cases hn
      refine ⟨_, hl2, by rw [List.length_map, hlen]; exact small1000 (by omega), ps ++ [p], by simp [hlen], ?_, fun q hq => ?_, fun b o e => ?_⟩
      · rw [upd_same]
        simp
      · have nq : ∀ q, q ≠ D → PurseAt H2 q 0 → PurseAt (upd H2 D (.lst (ps.map V.ref ++ [.ref p]))) q 0 ∧ q ≠ D := fun q n h => ⟨h.but but_upd n, n⟩
        rcases List.mem_append.mp hq with z | z
        · exact nq q (hp q z).2 ((hp q z).1.same s2)
        · have e : q = p := by simpa using z
          subst e
          exact nq q ne h1
      · rw [upd_ne (ne_of_none e hD)]
        exact s2 _ _ (s1 _ _ e)
    · rintro H' ⟨ps, hlen, hl, hp, s1⟩
      exact k D ps H' (by omega) hl hp s1
end
end L2.K01
set_option Elab.async false
set_option linter.all false
set_option maxRecDepth 100000
set_option maxHeartbeats 4000000
namespace L2.K01
open PySem PySem.Spec PyProof.Rows L2.EV
/-! ### one of some -/
abbrev sOne : Stmt := top 37
theorem scOne : FnScope ["_law_purse_here", "_law_some"] ["_law_purse_here", "_law_some"] (defScope sOne) := ⟨rfl, rfl, rfl, by decide +kernel, rfl, by decide +kernel, by decide +kernel⟩
def spOne : Sp := fun vs H Q _ => ∃ (p l : Addr) (xs : List V) (n : Nat), vs = [.ref p, .ref l] ∧ H l = some (.lst xs) ∧ l ≠ p ∧ (0 < xs.length ∧ xs.length < 2 ^ 200) ∧ PurseAt H p n ∧ n < 2 ^ 50 ∧
  ∀ (i : Nat) (x : V) (H' : Hp), xs[i]? = some x → PurseAt H' p (n + 1) → But p H H' → Q x H'
section
variable {P : Program} {w : World} {K : PySem.W.Frag} {mg : Str → Option Value} {base : Heap} {f fD : Addr} {fd fdD : FuncData}
theorem ok_one (F : FnP K "_law_one_of" sOne f fd) (GD : FnOk P w K mg base CX0 2 fD fdD ["_law_purse_here", "_law_many"] spDraw) (bD : Binds K fdD ["_law_purse_here", "_law_many"] []) (kD : PySem.W.keepIn K (.ref fD) = true)
    (gD : mg "_law_draw" = some (.ref fD)) (mL : mg "len" = none) : FnOk P w K mg base CX0 3 f fd ["_law_purse_here", "_law_some"] spOne := by
  refine F.ok scOne (fun vs H Q E h => ?_) (fun cdv A outer s H vs Q E hr h => ?_)
  · obtain ⟨p, l, xs, n, rfl, _⟩ := h
    rfl
  · obtain ⟨p, l, xs, n, rfl, hl, ne, hx, hp, hn, k⟩ := h
    refine ⟨_, PSs.nox (pss_one (ps_ret (pe_ix ix_list (pv 1) (pe_call GD hr (by rfl) gD kD bD .nil pass0 (pa_cons (pv 0) (pa_cons (pe_callB call_len_seq (by rfl) mL PySem.boot_len (pa_cons (pv 1) pa_nil)) pa_nil))) (fun _ _ => rfl)))), ?_⟩
    refine ⟨_, rfl, _, rfl, _, rfl, l, xs, rfl, .inl (SqL.of hl), ?_⟩
    refine ⟨p, _, n, rfl, ⟨by omega, by omega⟩, hp, hn, fun r H' r0 r1 h1 bt => ?_⟩
    obtain ⟨i, rfl⟩ := Int.eq_ofNat_of_zero_le r0
    have hi : i < xs.length := by omega
    have hg : xs[i]? = some xs[i] := List.getElem?_eq_getElem hi
    exact ⟨l, xs, i, xs[i], rfl, rfl, SqL.of ((bt l ne).trans hl), atI_nat hg, k i _ H' hg h1 bt⟩
end
/-! ### a word -/
def Word (x : Str) : Prop := (1 ≤ x.length ∧ x.length ≤ 8) ∧ ∀ c ∈ x.cps.toList, 97 ≤ c ∧ c ≤ 122
theorem Word.codes {x : Str} (h : Word x) : Codes x := fun c hc => Nat.lt_of_le_of_lt (h.2 c hc).2 (by decide)
abbrev abc : Str := "abcdefghijklmnopqrstuvwxyz"
abbrev sWord : Stmt := top 38
abbrev nWord : List Str := ["_law_purse_here", "_law_size", "_law_turn"]
theorem scWord : FnScope nWord ["_law_purse_here"] (defScope sWord) := ⟨rfl, rfl, rfl, by decide +kernel, rfl, by decide +kernel, by decide +kernel⟩
def spWord : Sp := fun vs H Q _ => ∃ (p : Addr) (n : Nat), vs = [.ref p] ∧ PurseAt H p n ∧ n < 2 ^ 40 ∧
  ∀ (x : Str) (H' : Hp), Word x → PurseAt H' p (n + 10) → (∀ b o, b ≠ p → H b = some o → H' b = some o) → Q (.str x) H'
theorem joinL_nil : ∀ xs : List (List Nat), TL.joinL [] xs = xs.flatten
  | [] => rfl
  | [p] => by simp [TL.joinL]
  | p :: q :: r => by
    show p ++ ([] ++ TL.joinL [] (q :: r)) = _
    rw [joinL_nil (q :: r)]
    simp
/-- one sign of the alphabet -/
def Sign (y : Str) : Prop := ∃ c, y = ⟨#[c]⟩ ∧ 97 ≤ c ∧ c ≤ 122
theorem join_signs {ys : List Str} (h : ∀ y ∈ ys, Sign y) (h1 : 1 ≤ ys.length) (h8 : ys.length ≤ 8) : Word (Txt.join ("" : Str) ys) := by
  have e : TL.tl (Txt.join ("" : Str) ys) = (ys.map TL.tl).flatten := by
    rw [TL.join_eq, TL.tl_join]
    exact joinL_nil _
  have len : ∀ zs : List Str, (∀ y ∈ zs, Sign y) → ((zs.map TL.tl).flatten).length = zs.length := by
    intro zs
    induction zs with
    | nil => intro _; rfl
    | cons z zs ih =>
      intro hz
      obtain ⟨c, rfl, _⟩ := hz z List.mem_cons_self
      have q := ih fun y hy => hz y (List.mem_cons_of_mem _ hy)
      rw [List.map_cons, List.flatten_cons, List.length_append, q]
      show 1 + zs.length = zs.length + 1
      omega
  have hl : (Txt.join ("" : Str) ys).length = ys.length := by
    rw [← len ys h, ← e]
    show (Txt.join ("" : Str) ys).cps.size = _
    rw [Array.length_toList]
  refine ⟨by omega, fun c hc => ?_⟩
  rw [show (Txt.join ("" : Str) ys).cps.toList = (ys.map TL.tl).flatten from e] at hc
  obtain ⟨z, hz, hcz⟩ := List.mem_flatten.mp hc
  obtain ⟨y, hy, rfl⟩ := List.mem_map.mp hz
  obtain ⟨d, rfl, hd⟩ := h y hy
  have ec : c = d := by simpa using hcz
  rw [ec]
  exact hd
theorem sign_at {i : Nat} (h : i < 26) : ∃ c, abc.cps.toList[i]? = some c ∧ 97 ≤ c ∧ c ≤ 122 := by
  have e : abc.cps.toList = (List.range 26).map (· + 97) := by decide +kernel
  refine ⟨i + 97, ?_, by omega, by omega⟩
  rw [e, List.getElem?_map, List.getElem?_range h]
  rfl
section
variable {P : Program} {w : World} {K : PySem.W.Frag} {mg : Str → Option Value} {base : Heap} {f fD : Addr} {fd fdD : FuncData}
theorem ok_word (F : FnP K "_law_word" sWord f fd) (GD : FnOk P w K mg base CX0 2 fD fdD ["_law_purse_here", "_law_many"] spDraw) (bD : Binds K fdD ["_law_purse_here", "_law_many"] []) (kD : PySem.W.keepIn K (.ref fD) = true)
    (gD : mg "_law_draw" = some (.ref fD)) (mR : mg "range" = none) : FnOk P w K mg base CX0 3 f fd ["_law_purse_here"] spWord := by
  refine F.ok scWord (fun vs H Q E h => ?_) (fun cdv A outer s H vs Q E hr h => ?_)
  · obtain ⟨p, n, rfl, _⟩ := h
    rfl
  · obtain ⟨p, n, rfl, hp, hn, k⟩ := h
    refine ⟨_, PSs.nox (pss_cons (ps_set (i := 1) scWord.nd rfl (Or.inl rfl) (pe_op op_add pe_int (pe_call GD hr (by rfl) gD kD bD .nil pass0 (pa_cons (pv 0)
          (pa_cons (pe_ifExp (pt_cmpR op_eq (pe_call GD hr (by rfl) gD kD bD .nil pass0 (pa_cons (pv 0) (pa_cons pe_int pa_nil))) pe_int (nomark _)) pe_int pe_int) pa_nil)))))
      (pss_one (ps_ret (pe_join pe_str (pe_lc (own := [("_law_turn", 2)]) (g := gName 2) (tt := tYes) (by rfl) scWord.nd
        (pi_range1 (by rfl) mR (pa_cons (pv 1) pa_nil))
        (blkOk_by (own := [("_law_turn", 2)]) (N := nWord) (sc := defScope sWord) (by decide +kernel)) (fun _ _ _ _ _ => pg_name (i := 2) scWord.nd rfl (Or.inl rfl)) (fun _ _ _ _ _ => pts_nil)
        (fun _ _ _ _ _ => pe_ix ix_str pe_str (pe_call GD hr (by rfl) gD kD bD .nil pass0 (pa_cons (pv 0) (pa_cons pe_int pa_nil))) (fun _ _ => rfl))))))), ?_⟩
    refine ⟨_, rfl, _, rfl, ?_⟩
    refine ⟨p, 3, n, rfl, ⟨by decide, by decide⟩, hp, by omega, fun r1 H1 _ _ p1 b1 => ⟨rfl, _, rfl, ?_⟩⟩
    -- eight signs at most, or three
    refine ite2 (fun _ => ?_) (fun _ => ?_)
    all_goals
      refine ⟨p, _, n + 1, rfl, ⟨by decide, by decide⟩, p1, by omega, fun r2 H2 q0 q1 p2 b2 => ⟨_, _, rfl, rfl, ?_⟩⟩
      obtain ⟨m, rfl⟩ := Int.eq_ofNat_of_zero_le q0
      refine ⟨⟨_, rfl⟩, _, rfl, _, rfl, by omega, by omega, fun D hD => ?_⟩
      have em : (1 + (m : Int)).toNat = m + 1 := by omega
      rw [em]
      refine lc_range (lo := 0) (n := m + 1) (fun i H' => ∃ ys : List Str, ys.length = i ∧ H' D = some (.lst (ys.map V.str)) ∧ (∀ y ∈ ys, Sign y) ∧ PurseAt H' p (n + 2 + i) ∧ (∀ b o, b ≠ p → H b = some o → H' b = some o) ∧ p ≠ D)
        ⟨[], rfl, upd_same, (fun _ z => absurd z List.not_mem_nil), ?_, fun b o nb e => ?_, ?_⟩ ?_ ?_
      · obtain ⟨o, eo⟩ := p2.some
        exact (p2.but but_upd (ne_of_none eo hD))
      · have e2 : H2 b = some o := (b2 b nb).trans ((b1 b nb).trans e)
        rw [upd_ne (ne_of_none e2 hD)]
        exact e2
      · obtain ⟨o, eo⟩ := p2.some
        exact ne_of_none eo hD
      · rintro i H' hi ⟨ys, hlen, hl, hy, hp', kp, nD⟩
        refine ⟨rfl, ?_⟩
        dsimp only [tYes]
        rw [if_pos rfl]
        refine ⟨_, rfl, p, 26, n + 2 + i, rfl, ⟨by decide, by decide⟩, hp', by omega, fun r H3 s0 s1 p3 b3 => ?_⟩
        obtain ⟨j, rfl⟩ := Int.eq_ofNat_of_zero_le s0
        obtain ⟨c, hc, hcb⟩ := sign_at (i := j) (by omega)
        have hl3 : H3 D = some (.lst (ys.map V.str)) := (b3 D (Ne.symm nD)).trans hl
        refine ⟨abc, j, c, rfl, rfl, (by decide +kernel), atI_nat hc, ?_⟩
        refine ⟨_, hl3, by rw [List.length_map, hlen]; exact small1000 (by omega), ys ++ [⟨#[c]⟩], by simp [hlen], ?_, fun y hy' => ?_, ?_, fun b o nb e => ?_, nD⟩
        · rw [upd_same]
          simp
        · rcases List.mem_append.mp hy' with z | z
          · exact hy y z
          · exact ⟨c, by simpa using z, hcb⟩
        · exact p3.but but_upd nD
        · have e3 : H3 b = some o := (b3 b nb).trans (kp b o nb e)
          by_cases eb : b = D
          · subst eb
            have e2 : H2 b = some o := (b2 b nb).trans ((b1 b nb).trans e)
            rw [hD] at e2
            cases e2
          · rw [upd_ne eb]
            exact e3
      · rintro H' ⟨ys, hlen, hl, hy, hp', kp, nD⟩
        have sum_le : ∀ zs : List Str, (∀ y ∈ zs, Sign y) → (zs.map (·.length)).sum = zs.length := by
          intro zs
          induction zs with
          | nil => intro _; rfl
          | cons z zs ih =>
            intro hz
            obtain ⟨c, rfl, _⟩ := hz z List.mem_cons_self
            have q := ih fun y hy => hz y (List.mem_cons_of_mem _ hy)
            rw [List.map_cons, List.sum_cons, q]
            show 1 + zs.length = zs.length + 1
            omega
        refine ⟨_, D, ys, rfl, rfl, .inl (SqL.of hl), ?_, ?_⟩
        · rw [sum_le ys hy]
          show ys.length + ys.length * 0 ≤ 16777216
          omega
        · exact k _ H' (join_signs hy (by omega) (by omega)) (hp'.up (by omega)) kp
end
end L2.K01
set_option Elab.async false
set_option linter.all false
set_option maxRecDepth 100000
set_option maxHeartbeats 4000000
namespace L2.K01
open PySem PySem.Spec PyProof.Rows L2.EV
/-! ### the classes of errors -/
def cN : List Str := ["InvalidWord", "InvalidBook", "InvalidEffect", "InvalidManner", "InvalidManners", "InvalidRooms", "InvalidManual", "InvalidManuals", "InvalidChange", "InvalidChanges", "InvalidRoom", "InvalidWay", "InvalidCount", "InvalidCard", "InvalidMark", "InvalidExpression", "InvalidTable", "InvalidRests", "InvalidRule", "InvalidLot", "InvalidMending", "InvalidHouse", "InvalidSpot", "InvalidScript", "InvalidText", "InvalidLog", "Refused", "TooMany"]
def cM : List Str := cN ++ (["NothingToUndo", "NothingToRedo", "PurseError"] : List Str)
def cl (K : PySem.W.Frag) (j : Nat) : Addr := He.ga K (cM.getD j "")
/-- what the written part says -/
structure Tx (P : Program) (w : World) (K : PySem.W.Frag) (mg : Str → Option Value) (base : Heap) : Prop where
  c0 : Ck P w K mg base "InvalidWord" (cl K 0)
  c1 : Ck P w K mg base "InvalidBook" (cl K 1)
  c2 : Ck P w K mg base "InvalidEffect" (cl K 2)
  c3 : Ck P w K mg base "InvalidManner" (cl K 3)
  c4 : Ck P w K mg base "InvalidManners" (cl K 4)
  c5 : Ck P w K mg base "InvalidRooms" (cl K 5)
  c6 : Ck P w K mg base "InvalidManual" (cl K 6)
  c7 : Ck P w K mg base "InvalidManuals" (cl K 7)
  c8 : Ck P w K mg base "InvalidChange" (cl K 8)
  c9 : Ck P w K mg base "InvalidChanges" (cl K 9)
  c10 : Ck P w K mg base "InvalidRoom" (cl K 10)
  c11 : Ck P w K mg base "InvalidWay" (cl K 11)
  c12 : Ck P w K mg base "InvalidCount" (cl K 12)
  c13 : Ck P w K mg base "InvalidCard" (cl K 13)
  c14 : Ck P w K mg base "InvalidMark" (cl K 14)
  c15 : Ck P w K mg base "InvalidExpression" (cl K 15)
  c16 : Ck P w K mg base "InvalidTable" (cl K 16)
  c17 : Ck P w K mg base "InvalidRests" (cl K 17)
  c18 : Ck P w K mg base "InvalidRule" (cl K 18)
  c19 : Ck P w K mg base "InvalidLot" (cl K 19)
  c20 : Ck P w K mg base "InvalidMending" (cl K 20)
  c21 : Ck P w K mg base "InvalidHouse" (cl K 21)
  c22 : Ck P w K mg base "InvalidSpot" (cl K 22)
  c23 : Ck P w K mg base "InvalidScript" (cl K 23)
  c24 : Ck P w K mg base "InvalidText" (cl K 24)
  c25 : Ck P w K mg base "InvalidLog" (cl K 25)
  c26 : Ck P w K mg base "Refused" (cl K 26)
  c27 : Ck P w K mg base "TooMany" (cl K 27)
  asks : ∀ j, j < 31 → Asks K (cl K j)
  kit : ∀ i j, i < 31 → j < 31 → PySem.W.kitOne K (.ref (cl K i)) (.ref (cl K j)) = some (decide (i = j || j = 30))
  kitV : ∀ i, i < 31 → PySem.W.kitOne K (.ref (cl K i)) (.type "ValueError") = some true
  m28 : mg "NothingToUndo" = some (.ref (cl K 28))
  m29 : mg "NothingToRedo" = some (.ref (cl K 29))
  m30 : mg "PurseError" = some (.ref (cl K 30))
  exc : ∀ j, 28 ≤ j → j < 31 → PySem.W.excIn K (cl K j) He.veBase "ValueError.__new__" = true ∧ PySem.W.keepIn K (.ref (cl K j)) = true
  sys : (K.lookup sysModules).isSome = true
  errs : ∀ j, j < 28 → ∃ fE, Err K (cl K j) fE
/-- es: errors made of v, of the classes js -/
def Errs (K : PySem.W.Frag) (H : Hp) (v : V) (es : List Addr) (js : List Nat) : Prop := es.length = js.length ∧ ∀ (i : Nat) (a : Addr) (j : Nat), es[i]? = some a → js[i]? = some j → ErrO H a (cl K j) v
theorem Errs.same {K : PySem.W.Frag} {H H' : Hp} {v : V} {es : List Addr} {js : List Nat} (e : Errs K H v es js) (s : Same H H') : Errs K H' v es js := ⟨e.1, fun i a j h1 h2 => (e.2 i a j h1 h2).same s⟩
theorem Errs.app {K : PySem.W.Frag} {H : Hp} {v : V} {es as : List Addr} {js ks : List Nat} (e : Errs K H v es js) (d : Errs K H v as ks) : Errs K H v (es ++ as) (js ++ ks) := by
  refine ⟨by rw [List.length_append, List.length_append, e.1, d.1], fun i a j h1 h2 => ?_⟩
  by_cases hi : i < es.length
  · rw [List.getElem?_append_left hi] at h1
    rw [List.getElem?_append_left (by rw [← e.1]; exact hi)] at h2
    exact e.2 i a j h1 h2
  · rw [List.getElem?_append_right (by omega)] at h1
    rw [List.getElem?_append_right (by rw [← e.1]; omega)] at h2
    rw [← e.1] at h2
    exact d.2 _ a j h1 h2
theorem seq_of {a b : TS} {D : Ends} {σ : St} {H : Hp} (h : a { D with nx := b D } σ H) : tSeq a b D σ H := h
theorem asg_lst {t : TA} {g : TG} {D : Ends} {σ : St} {H : Hp} (h : t σ H fun xs H1 => xs.length ≤ sizeLine ∧ ∀ p, H1 p = none → g (.ref p) σ (upd H1 p (.lst xs)) D.nx) : tAsg (tLst t) g D σ H := h
theorem asg_cat {i : Nat} {u : V} {t : TA} {g : TG} {D : Ends} {σ : St} {H : Hp} (hu : σ[i]? = some (some u))
    (h : t σ H fun xs H1 => xs.length ≤ sizeLine ∧ ∀ p, H1 p = none → rCat u (.ref p) (upd H1 p (.lst xs)) fun z H3 => g z σ H3 D.nx) : tAsg (tOp rCat (tVar i) (tLst t)) g D σ H := ⟨u, hu, h⟩
/-- so many errors in a row -/
def tMks (K : PySem.W.Frag) (te : TE) : List Nat → TA
  | [] => tNil
  | j :: js => tCons (tMkV (cl K j) te) (tMks K te js)
theorem rd_mks {K : PySem.W.Frag} {te : TE} {σ : St} {v : V} (hte : ∀ H Q, Q v H → te σ H Q) : ∀ (js : List Nat) (H : Hp) (Q : List V → Hp → Prop),
    (∀ as H', Same H H' → Errs K H' v as js → Q (as.map V.ref) H') → tMks K te js σ H Q
  | [], H, Q, h => h [] H (Same.refl H) ⟨rfl, fun i a j h1 _ => by cases h1⟩
  | j :: js, H, Q, h => by
    show te σ H fun u H1 => ∀ a H', Same H1 H' → H1 a = none → ErrO H' a (cl K j) u → tMks K te js σ H' fun xs H2 => Q (V.ref a :: xs) H2
    refine hte H _ fun a H' s n e => ?_
    refine rd_mks hte js H' _ fun as H2 s2 es => ?_
    refine h (a :: as) H2 (s.trans s2) ⟨congrArg Nat.succ es.1, fun i b k h1 h2 => ?_⟩
    cases i with
    | zero =>
      have e1 : a = b := Option.some.inj (by simpa using h1)
      have e2 : j = k := Option.some.inj (by simpa using h2)
      rw [← e1, ← e2]
      exact e.same s2
    | succ i => exact es.2 i b k (by simpa using h1) (by simpa using h2)
/-- what a maker of all errors promises -/
def AllOf (K : PySem.W.Frag) (v : V) (H : Hp) (Q : VK) : Prop := ∀ (l : Addr) (es : List Addr) (H' : Hp), Errs K H' v es (List.range 28) → H' l = some (.lst (es.map V.ref)) → Same H H' → H l = none → Q (.ref l) H'
def spAll (K : PySem.W.Frag) : Sp := fun vs H Q _ => ∃ v, vs = [v] ∧ AllOf K v H Q
def spBare (K : PySem.W.Frag) : Sp := fun vs H Q _ => vs = [] ∧ AllOf K .non H Q
/-- found + [..]: two new lists -/
theorem add_errs {K : PySem.W.Frag} {H H' : Hp} {l : Addr} {v : V} {es as : List Addr} {js ks : List Nat} {Q : VK}
    (hl : H l = some (.lst (es.map V.ref))) (he : Errs K H v es js) (s : Same H H') (ha : Errs K H' v as ks) (hz : js.length + ks.length ≤ 1000)
    (k : ∀ p H3, H3 p = some (.lst ((es ++ as).map V.ref)) → Errs K H3 v (es ++ as) (js ++ ks) → Same H' H3 → H' p = none → Q (.ref p) H3) :
    (as.map V.ref).length ≤ sizeLine ∧ ∀ q, H' q = none → rCat (V.ref l) (V.ref q) (upd H' q (.lst (as.map V.ref))) Q := by
  have l1 : (es.map V.ref).length = js.length := by rw [List.length_map, he.1]
  have l2 : (as.map V.ref).length = ks.length := by rw [List.length_map, ha.1]
  refine ⟨by rw [l2]; exact Nat.le_of_lt (small1000 (by omega)), fun q hq => ?_⟩
  have s1 : Same H' (upd H' q (.lst (as.map V.ref))) := same_upd hq
  refine ⟨l, q, _, _, rfl, rfl, s1 _ _ (s _ _ hl), upd_same, by rw [l1, l2]; exact Nat.le_of_lt (small1000 hz), fun p hp => ?_⟩
  refine k p _ (by rw [List.map_append]; exact upd_same) (((he.same s).app ha).same (s1.trans (same_upd hp))) (s1.trans (same_upd hp)) (s1.free hp)
abbrev sFirst : Stmt := top 39
theorem scFirst : FnScope ["_law_thing", "_law_found"] ["_law_thing"] (defScope sFirst) := ⟨rfl, rfl, rfl, by decide +kernel, rfl, by decide +kernel, by decide +kernel⟩
theorem ok_First {P : Program} {w : World} {K : PySem.W.Frag} {mg : Str → Option Value} {base : Heap} {f : Addr} {fd : FuncData} (F : FnP K "_law_first" sFirst f fd) (T : Tx P w K mg base) :
    FnOk P w K mg base CX0 3 f fd ["_law_thing"] (spAll K) := by
  refine F.ok scFirst (fun vs H Q E h => ?_) (fun cdv A outer s H vs Q E hr h => ?_)
  · obtain ⟨v, rfl, _⟩ := h
    rfl
  · obtain ⟨v, rfl, k⟩ := h
    have ht : ∀ (x : Option V) (H : Hp) (Q : VK), Q v H → tVar 0 [some v, x] H Q := fun x H Q q => ⟨v, rfl, q⟩
    refine ⟨_, PSs.nox (pss_cons (ps_set (i := 1) scFirst.nd rfl (Or.inl rfl) (pe_lst (pa_cons (pe_mkV T.c0 hr (pv 0)) (pa_cons (pe_mkV T.c1 hr (pv 0)) (pa_cons (pe_mkV T.c2 hr (pv 0)) (pa_cons (pe_mkV T.c3 hr (pv 0)) pa_nil))))))
        (pss_cons (ps_set (i := 1) scFirst.nd rfl (Or.inl rfl) (pe_op op_cat (pv 1) (pe_lst (pa_cons (pe_mkV T.c4 hr (pv 0)) (pa_cons (pe_mkV T.c5 hr (pv 0)) (pa_cons (pe_mkV T.c6 hr (pv 0)) (pa_cons (pe_mkV T.c7 hr (pv 0)) pa_nil)))))))
        (pss_cons (ps_set (i := 1) scFirst.nd rfl (Or.inl rfl) (pe_op op_cat (pv 1) (pe_lst (pa_cons (pe_mkV T.c8 hr (pv 0)) (pa_cons (pe_mkV T.c9 hr (pv 0)) (pa_cons (pe_mkV T.c10 hr (pv 0)) (pa_cons (pe_mkV T.c11 hr (pv 0)) pa_nil)))))))
        (pss_cons (ps_set (i := 1) scFirst.nd rfl (Or.inl rfl) (pe_op op_cat (pv 1) (pe_lst (pa_cons (pe_mkV T.c12 hr (pv 0)) (pa_cons (pe_mkV T.c13 hr (pv 0)) (pa_cons (pe_mkV T.c14 hr (pv 0)) (pa_cons (pe_mkV T.c15 hr (pv 0)) pa_nil)))))))
        (pss_cons (ps_set (i := 1) scFirst.nd rfl (Or.inl rfl) (pe_op op_cat (pv 1) (pe_lst (pa_cons (pe_mkV T.c16 hr (pv 0)) (pa_cons (pe_mkV T.c17 hr (pv 0)) (pa_cons (pe_mkV T.c18 hr (pv 0)) (pa_cons (pe_mkV T.c19 hr (pv 0)) pa_nil)))))))
        (pss_cons (ps_set (i := 1) scFirst.nd rfl (Or.inl rfl) (pe_op op_cat (pv 1) (pe_lst (pa_cons (pe_mkV T.c20 hr (pv 0)) (pa_cons (pe_mkV T.c21 hr (pv 0)) (pa_cons (pe_mkV T.c22 hr (pv 0)) (pa_cons (pe_mkV T.c23 hr (pv 0)) pa_nil)))))))
        (pss_cons (ps_set (i := 1) scFirst.nd rfl (Or.inl rfl) (pe_op op_cat (pv 1) (pe_lst (pa_cons (pe_mkV T.c24 hr (pv 0)) (pa_cons (pe_mkV T.c25 hr (pv 0)) (pa_cons (pe_mkV T.c26 hr (pv 0)) (pa_cons (pe_mkV T.c27 hr (pv 0)) pa_nil)))))))
        (pss_one (ps_ret (pv 1)))))))))), ?_⟩
    refine seq_of (asg_lst ?_)
    show tMks K (tVar 0) [0, 1, 2, 3] _ _ _
    refine rd_mks (v := v) (ht _) [0, 1, 2, 3] _ _ fun as0 H0 s0 e0 => ?_
    refine ⟨by rw [List.length_map, e0.1]; exact Nat.le_of_lt (small1000 (by decide)), fun l0 hl0 => ?_⟩
    have g0 := e0.same (same_upd (o := .lst (as0.map V.ref)) hl0)
    have h0 : upd H0 l0 (.lst (as0.map V.ref)) l0 = some (.lst (as0.map V.ref)) := upd_same
    have f0 : H l0 = none := s0.free hl0
    have q0 := s0.trans (same_upd (o := .lst (as0.map V.ref)) hl0)
    generalize upd H0 l0 (.lst (as0.map V.ref)) = G0 at g0 h0 q0
    generalize as0 = es0 at g0 h0
    clear e0 hl0
    refine ⟨_, rfl, ?_⟩
    show tMks K (tVar 0) [4, 5, 6, 7] _ _ _
    refine rd_mks (v := v) (ht _) [4, 5, 6, 7] _ _ fun as1 H1 s1 e1 => ?_
    refine add_errs (js := [0, 1, 2, 3]) (ks := [4, 5, 6, 7]) h0 g0 s1 e1 (by decide) fun l1 G1 h1 g1 z1 n1 => ?_
    have q1 : Same H G1 := q0.trans (s1.trans z1)
    have f1 : H l1 = none := q0.free (s1.free n1)
    refine ⟨_, rfl, ?_⟩
    show tMks K (tVar 0) [8, 9, 10, 11] _ _ _
    refine rd_mks (v := v) (ht _) [8, 9, 10, 11] _ _ fun as2 H2 s2 e2 => ?_
    refine add_errs (js := [0, 1, 2, 3, 4, 5, 6, 7]) (ks := [8, 9, 10, 11]) h1 g1 s2 e2 (by decide) fun l2 G2 h2 g2 z2 n2 => ?_
    have q2 : Same H G2 := q1.trans (s2.trans z2)
    have f2 : H l2 = none := q1.free (s2.free n2)
    refine ⟨_, rfl, ?_⟩
    show tMks K (tVar 0) [12, 13, 14, 15] _ _ _
    refine rd_mks (v := v) (ht _) [12, 13, 14, 15] _ _ fun as3 H3 s3 e3 => ?_
    refine add_errs (js := [0, 1, 2, 3, 4, 5, 6, 7, 8, 9, 10, 11]) (ks := [12, 13, 14, 15]) h2 g2 s3 e3 (by decide) fun l3 G3 h3 g3 z3 n3 => ?_
    have q3 : Same H G3 := q2.trans (s3.trans z3)
    have f3 : H l3 = none := q2.free (s3.free n3)
    refine ⟨_, rfl, ?_⟩
    show tMks K (tVar 0) [16, 17, 18, 19] _ _ _
    refine rd_mks (v := v) (ht _) [16, 17, 18, 19] _ _ fun as4 H4 s4 e4 => ?_
    refine add_errs (js := [0, 1, 2, 3, 4, 5, 6, 7, 8, 9, 10, 11, 12, 13, 14, 15]) (ks := [16, 17, 18, 19]) h3 g3 s4 e4 (by decide) fun l4 G4 h4 g4 z4 n4 => ?_
    have q4 : Same H G4 := q3.trans (s4.trans z4)
    have f4 : H l4 = none := q3.free (s4.free n4)
    refine ⟨_, rfl, ?_⟩
    show tMks K (tVar 0) [20, 21, 22, 23] _ _ _
    refine rd_mks (v := v) (ht _) [20, 21, 22, 23] _ _ fun as5 H5 s5 e5 => ?_
    refine add_errs (js := [0, 1, 2, 3, 4, 5, 6, 7, 8, 9, 10, 11, 12, 13, 14, 15, 16, 17, 18, 19]) (ks := [20, 21, 22, 23]) h4 g4 s5 e5 (by decide) fun l5 G5 h5 g5 z5 n5 => ?_
    have q5 : Same H G5 := q4.trans (s5.trans z5)
    have f5 : H l5 = none := q4.free (s5.free n5)
    refine ⟨_, rfl, ?_⟩
    show tMks K (tVar 0) [24, 25, 26, 27] _ _ _
    refine rd_mks (v := v) (ht _) [24, 25, 26, 27] _ _ fun as6 H6 s6 e6 => ?_
    refine add_errs (js := [0, 1, 2, 3, 4, 5, 6, 7, 8, 9, 10, 11, 12, 13, 14, 15, 16, 17, 18, 19, 20, 21, 22, 23]) (ks := [24, 25, 26, 27]) h5 g5 s6 e6 (by decide) fun l6 G6 h6 g6 z6 n6 => ?_
    have q6 : Same H G6 := q5.trans (s6.trans z6)
    have f6 : H l6 = none := q5.free (s6.free n6)
    have ej : [0, 1, 2, 3, 4, 5, 6, 7, 8, 9, 10, 11, 12, 13, 14, 15, 16, 17, 18, 19, 20, 21, 22, 23] ++ [24, 25, 26, 27] = List.range 28 := by decide
    rw [ej] at g6
    exact ⟨_, rfl, k l6 _ G6 g6 h6 q6 f6⟩
abbrev sCalled : Stmt := top 40
theorem scCalled : FnScope ["_law_thing", "_law_found"] ["_law_thing"] (defScope sCalled) := ⟨rfl, rfl, rfl, by decide +kernel, rfl, by decide +kernel, by decide +kernel⟩
theorem ok_Called {P : Program} {w : World} {K : PySem.W.Frag} {mg : Str → Option Value} {base : Heap} {f : Addr} {fd : FuncData} (F : FnP K "_law_called" sCalled f fd) (T : Tx P w K mg base) :
    FnOk P w K mg base CX0 3 f fd ["_law_thing"] (spAll K) := by
  refine F.ok scCalled (fun vs H Q E h => ?_) (fun cdv A outer s H vs Q E hr h => ?_)
  · obtain ⟨v, rfl, _⟩ := h
    rfl
  · obtain ⟨v, rfl, k⟩ := h
    have ht : ∀ (x : Option V) (H : Hp) (Q : VK), Q v H → tVar 0 [some v, x] H Q := fun x H Q q => ⟨v, rfl, q⟩
    refine ⟨_, PSs.nox (pss_cons (ps_set (i := 1) scCalled.nd rfl (Or.inl rfl) (pe_lst (pa_cons (pe_mkVK T.c0 hr (pv 0)) (pa_cons (pe_mkVK T.c1 hr (pv 0)) (pa_cons (pe_mkVK T.c2 hr (pv 0)) pa_nil)))))
        (pss_cons (ps_set (i := 1) scCalled.nd rfl (Or.inl rfl) (pe_op op_cat (pv 1) (pe_lst (pa_cons (pe_mkVK T.c3 hr (pv 0)) (pa_cons (pe_mkVK T.c4 hr (pv 0)) (pa_cons (pe_mkVK T.c5 hr (pv 0)) pa_nil))))))
        (pss_cons (ps_set (i := 1) scCalled.nd rfl (Or.inl rfl) (pe_op op_cat (pv 1) (pe_lst (pa_cons (pe_mkVK T.c6 hr (pv 0)) (pa_cons (pe_mkVK T.c7 hr (pv 0)) (pa_cons (pe_mkVK T.c8 hr (pv 0)) pa_nil))))))
        (pss_cons (ps_set (i := 1) scCalled.nd rfl (Or.inl rfl) (pe_op op_cat (pv 1) (pe_lst (pa_cons (pe_mkVK T.c9 hr (pv 0)) (pa_cons (pe_mkVK T.c10 hr (pv 0)) (pa_cons (pe_mkVK T.c11 hr (pv 0)) pa_nil))))))
        (pss_cons (ps_set (i := 1) scCalled.nd rfl (Or.inl rfl) (pe_op op_cat (pv 1) (pe_lst (pa_cons (pe_mkVK T.c12 hr (pv 0)) (pa_cons (pe_mkVK T.c13 hr (pv 0)) (pa_cons (pe_mkVK T.c14 hr (pv 0)) pa_nil))))))
        (pss_cons (ps_set (i := 1) scCalled.nd rfl (Or.inl rfl) (pe_op op_cat (pv 1) (pe_lst (pa_cons (pe_mkVK T.c15 hr (pv 0)) (pa_cons (pe_mkVK T.c16 hr (pv 0)) (pa_cons (pe_mkVK T.c17 hr (pv 0)) pa_nil))))))
        (pss_cons (ps_set (i := 1) scCalled.nd rfl (Or.inl rfl) (pe_op op_cat (pv 1) (pe_lst (pa_cons (pe_mkVK T.c18 hr (pv 0)) (pa_cons (pe_mkVK T.c19 hr (pv 0)) (pa_cons (pe_mkVK T.c20 hr (pv 0)) pa_nil))))))
        (pss_cons (ps_set (i := 1) scCalled.nd rfl (Or.inl rfl) (pe_op op_cat (pv 1) (pe_lst (pa_cons (pe_mkVK T.c21 hr (pv 0)) (pa_cons (pe_mkVK T.c22 hr (pv 0)) (pa_cons (pe_mkVK T.c23 hr (pv 0)) pa_nil))))))
        (pss_cons (ps_set (i := 1) scCalled.nd rfl (Or.inl rfl) (pe_op op_cat (pv 1) (pe_lst (pa_cons (pe_mkVK T.c24 hr (pv 0)) (pa_cons (pe_mkVK T.c25 hr (pv 0)) (pa_cons (pe_mkVK T.c26 hr (pv 0)) pa_nil))))))
        (pss_cons (ps_set (i := 1) scCalled.nd rfl (Or.inl rfl) (pe_op op_cat (pv 1) (pe_lst (pa_cons (pe_mkVK T.c27 hr (pv 0)) pa_nil))))
        (pss_one (ps_ret (pv 1))))))))))))), ?_⟩
    refine seq_of (asg_lst ?_)
    show tMks K (tVar 0) [0, 1, 2] _ _ _
    refine rd_mks (v := v) (ht _) [0, 1, 2] _ _ fun as0 H0 s0 e0 => ?_
    refine ⟨by rw [List.length_map, e0.1]; exact Nat.le_of_lt (small1000 (by decide)), fun l0 hl0 => ?_⟩
    have g0 := e0.same (same_upd (o := .lst (as0.map V.ref)) hl0)
    have h0 : upd H0 l0 (.lst (as0.map V.ref)) l0 = some (.lst (as0.map V.ref)) := upd_same
    have f0 : H l0 = none := s0.free hl0
    have q0 := s0.trans (same_upd (o := .lst (as0.map V.ref)) hl0)
    generalize upd H0 l0 (.lst (as0.map V.ref)) = G0 at g0 h0 q0
    generalize as0 = es0 at g0 h0
    clear e0 hl0
    refine ⟨_, rfl, ?_⟩
    show tMks K (tVar 0) [3, 4, 5] _ _ _
    refine rd_mks (v := v) (ht _) [3, 4, 5] _ _ fun as1 H1 s1 e1 => ?_
    refine add_errs (js := [0, 1, 2]) (ks := [3, 4, 5]) h0 g0 s1 e1 (by decide) fun l1 G1 h1 g1 z1 n1 => ?_
    have q1 : Same H G1 := q0.trans (s1.trans z1)
    have f1 : H l1 = none := q0.free (s1.free n1)
    refine ⟨_, rfl, ?_⟩
    show tMks K (tVar 0) [6, 7, 8] _ _ _
    refine rd_mks (v := v) (ht _) [6, 7, 8] _ _ fun as2 H2 s2 e2 => ?_
    refine add_errs (js := [0, 1, 2, 3, 4, 5]) (ks := [6, 7, 8]) h1 g1 s2 e2 (by decide) fun l2 G2 h2 g2 z2 n2 => ?_
    have q2 : Same H G2 := q1.trans (s2.trans z2)
    have f2 : H l2 = none := q1.free (s2.free n2)
    refine ⟨_, rfl, ?_⟩
    show tMks K (tVar 0) [9, 10, 11] _ _ _
    refine rd_mks (v := v) (ht _) [9, 10, 11] _ _ fun as3 H3 s3 e3 => ?_
    refine add_errs (js := [0, 1, 2, 3, 4, 5, 6, 7, 8]) (ks := [9, 10, 11]) h2 g2 s3 e3 (by decide) fun l3 G3 h3 g3 z3 n3 => ?_
    have q3 : Same H G3 := q2.trans (s3.trans z3)
    have f3 : H l3 = none := q2.free (s3.free n3)
    refine ⟨_, rfl, ?_⟩
    show tMks K (tVar 0) [12, 13, 14] _ _ _
    refine rd_mks (v := v) (ht _) [12, 13, 14] _ _ fun as4 H4 s4 e4 => ?_
    refine add_errs (js := [0, 1, 2, 3, 4, 5, 6, 7, 8, 9, 10, 11]) (ks := [12, 13, 14]) h3 g3 s4 e4 (by decide) fun l4 G4 h4 g4 z4 n4 => ?_
    have q4 : Same H G4 := q3.trans (s4.trans z4)
    have f4 : H l4 = none := q3.free (s4.free n4)
    refine ⟨_, rfl, ?_⟩
    show tMks K (tVar 0) [15, 16, 17] _ _ _
    refine rd_mks (v := v) (ht _) [15, 16, 17] _ _ fun as5 H5 s5 e5 => ?_
    refine add_errs (js := [0, 1, 2, 3, 4, 5, 6, 7, 8, 9, 10, 11, 12, 13, 14]) (ks := [15, 16, 17]) h4 g4 s5 e5 (by decide) fun l5 G5 h5 g5 z5 n5 => ?_
    have q5 : Same H G5 := q4.trans (s5.trans z5)
    have f5 : H l5 = none := q4.free (s5.free n5)
    refine ⟨_, rfl, ?_⟩
    show tMks K (tVar 0) [18, 19, 20] _ _ _
    refine rd_mks (v := v) (ht _) [18, 19, 20] _ _ fun as6 H6 s6 e6 => ?_
    refine add_errs (js := [0, 1, 2, 3, 4, 5, 6, 7, 8, 9, 10, 11, 12, 13, 14, 15, 16, 17]) (ks := [18, 19, 20]) h5 g5 s6 e6 (by decide) fun l6 G6 h6 g6 z6 n6 => ?_
    have q6 : Same H G6 := q5.trans (s6.trans z6)
    have f6 : H l6 = none := q5.free (s6.free n6)
    refine ⟨_, rfl, ?_⟩
    show tMks K (tVar 0) [21, 22, 23] _ _ _
    refine rd_mks (v := v) (ht _) [21, 22, 23] _ _ fun as7 H7 s7 e7 => ?_
    refine add_errs (js := [0, 1, 2, 3, 4, 5, 6, 7, 8, 9, 10, 11, 12, 13, 14, 15, 16, 17, 18, 19, 20]) (ks := [21, 22, 23]) h6 g6 s7 e7 (by decide) fun l7 G7 h7 g7 z7 n7 => ?_
    have q7 : Same H G7 := q6.trans (s7.trans z7)
    have f7 : H l7 = none := q6.free (s7.free n7)
    refine ⟨_, rfl, ?_⟩
    show tMks K (tVar 0) [24, 25, 26] _ _ _
    refine rd_mks (v := v) (ht _) [24, 25, 26] _ _ fun as8 H8 s8 e8 => ?_
    refine add_errs (js := [0, 1, 2, 3, 4, 5, 6, 7, 8, 9, 10, 11, 12, 13, 14, 15, 16, 17, 18, 19, 20, 21, 22, 23]) (ks := [24, 25, 26]) h7 g7 s8 e8 (by decide) fun l8 G8 h8 g8 z8 n8 => ?_
    have q8 : Same H G8 := q7.trans (s8.trans z8)
    have f8 : H l8 = none := q7.free (s8.free n8)
    refine ⟨_, rfl, ?_⟩
    show tMks K (tVar 0) [27] _ _ _
    refine rd_mks (v := v) (ht _) [27] _ _ fun as9 H9 s9 e9 => ?_
    refine add_errs (js := [0, 1, 2, 3, 4, 5, 6, 7, 8, 9, 10, 11, 12, 13, 14, 15, 16, 17, 18, 19, 20, 21, 22, 23, 24, 25, 26]) (ks := [27]) h8 g8 s9 e9 (by decide) fun l9 G9 h9 g9 z9 n9 => ?_
    have q9 : Same H G9 := q8.trans (s9.trans z9)
    have f9 : H l9 = none := q8.free (s9.free n9)
    have ej : [0, 1, 2, 3, 4, 5, 6, 7, 8, 9, 10, 11, 12, 13, 14, 15, 16, 17, 18, 19, 20, 21, 22, 23, 24, 25, 26] ++ [27] = List.range 28 := by decide
    rw [ej] at g9
    exact ⟨_, rfl, k l9 _ G9 g9 h9 q9 f9⟩
abbrev sBare : Stmt := top 41
theorem scBare : FnScope ["_law_found"] [] (defScope sBare) := ⟨rfl, rfl, rfl, by decide +kernel, rfl, by decide +kernel, by decide +kernel⟩
theorem ok_Bare {P : Program} {w : World} {K : PySem.W.Frag} {mg : Str → Option Value} {base : Heap} {f : Addr} {fd : FuncData} (F : FnP K "_law_bare" sBare f fd) (T : Tx P w K mg base) :
    FnOk P w K mg base CX0 3 f fd [] (spBare K) := by
  refine F.ok scBare (fun vs H Q E h => ?_) (fun cdv A outer s H vs Q E hr h => ?_)
  · obtain ⟨rfl, _⟩ := h
    rfl
  · obtain ⟨rfl, k⟩ := h
    have ht : ∀ (x : Option V) (H : Hp) (Q : VK), Q .non H → tC .non [x] H Q := fun x H Q q => q
    refine ⟨_, PSs.nox (pss_cons (ps_set (i := 0) scBare.nd rfl (Or.inl rfl) (pe_lst (pa_cons (pe_mkV0 T.c0 hr) (pa_cons (pe_mkV0 T.c1 hr) (pa_cons (pe_mkV0 T.c2 hr) (pa_cons (pe_mkV0 T.c3 hr) (pa_cons (pe_mkV0 T.c4 hr) (pa_cons (pe_mkV0 T.c5 hr) pa_nil))))))))
        (pss_cons (ps_set (i := 0) scBare.nd rfl (Or.inl rfl) (pe_op op_cat (pv 0) (pe_lst (pa_cons (pe_mkV0 T.c6 hr) (pa_cons (pe_mkV0 T.c7 hr) (pa_cons (pe_mkV0 T.c8 hr) (pa_cons (pe_mkV0 T.c9 hr) (pa_cons (pe_mkV0 T.c10 hr) pa_nil))))))))
        (pss_cons (ps_set (i := 0) scBare.nd rfl (Or.inl rfl) (pe_op op_cat (pv 0) (pe_lst (pa_cons (pe_mkV0 T.c11 hr) (pa_cons (pe_mkV0 T.c12 hr) (pa_cons (pe_mkV0 T.c13 hr) (pa_cons (pe_mkV0 T.c14 hr) (pa_cons (pe_mkV0 T.c15 hr) pa_nil))))))))
        (pss_cons (ps_set (i := 0) scBare.nd rfl (Or.inl rfl) (pe_op op_cat (pv 0) (pe_lst (pa_cons (pe_mkV0 T.c16 hr) (pa_cons (pe_mkV0 T.c17 hr) (pa_cons (pe_mkV0 T.c18 hr) (pa_cons (pe_mkV0 T.c19 hr) (pa_cons (pe_mkV0 T.c20 hr) pa_nil))))))))
        (pss_cons (ps_set (i := 0) scBare.nd rfl (Or.inl rfl) (pe_op op_cat (pv 0) (pe_lst (pa_cons (pe_mkV0 T.c21 hr) (pa_cons (pe_mkV0 T.c22 hr) (pa_cons (pe_mkV0 T.c23 hr) (pa_cons (pe_mkV0 T.c24 hr) (pa_cons (pe_mkV0 T.c25 hr) (pa_cons (pe_mkV0 T.c26 hr) pa_nil)))))))))
        (pss_cons (ps_set (i := 0) scBare.nd rfl (Or.inl rfl) (pe_op op_cat (pv 0) (pe_lst (pa_cons (pe_mkV0 T.c27 hr) pa_nil))))
        (pss_one (ps_ret (pv 0))))))))), ?_⟩
    refine seq_of (asg_lst ?_)
    show tMks K (tC .non) [0, 1, 2, 3, 4, 5] _ _ _
    refine rd_mks (v := .non) (ht _) [0, 1, 2, 3, 4, 5] _ _ fun as0 H0 s0 e0 => ?_
    refine ⟨by rw [List.length_map, e0.1]; exact Nat.le_of_lt (small1000 (by decide)), fun l0 hl0 => ?_⟩
    have g0 := e0.same (same_upd (o := .lst (as0.map V.ref)) hl0)
    have h0 : upd H0 l0 (.lst (as0.map V.ref)) l0 = some (.lst (as0.map V.ref)) := upd_same
    have f0 : H l0 = none := s0.free hl0
    have q0 := s0.trans (same_upd (o := .lst (as0.map V.ref)) hl0)
    generalize upd H0 l0 (.lst (as0.map V.ref)) = G0 at g0 h0 q0
    generalize as0 = es0 at g0 h0
    clear e0 hl0
    refine ⟨_, rfl, ?_⟩
    show tMks K (tC .non) [6, 7, 8, 9, 10] _ _ _
    refine rd_mks (v := .non) (ht _) [6, 7, 8, 9, 10] _ _ fun as1 H1 s1 e1 => ?_
    refine add_errs (js := [0, 1, 2, 3, 4, 5]) (ks := [6, 7, 8, 9, 10]) h0 g0 s1 e1 (by decide) fun l1 G1 h1 g1 z1 n1 => ?_
    have q1 : Same H G1 := q0.trans (s1.trans z1)
    have f1 : H l1 = none := q0.free (s1.free n1)
    refine ⟨_, rfl, ?_⟩
    show tMks K (tC .non) [11, 12, 13, 14, 15] _ _ _
    refine rd_mks (v := .non) (ht _) [11, 12, 13, 14, 15] _ _ fun as2 H2 s2 e2 => ?_
    refine add_errs (js := [0, 1, 2, 3, 4, 5, 6, 7, 8, 9, 10]) (ks := [11, 12, 13, 14, 15]) h1 g1 s2 e2 (by decide) fun l2 G2 h2 g2 z2 n2 => ?_
    have q2 : Same H G2 := q1.trans (s2.trans z2)
    have f2 : H l2 = none := q1.free (s2.free n2)
    refine ⟨_, rfl, ?_⟩
    show tMks K (tC .non) [16, 17, 18, 19, 20] _ _ _
    refine rd_mks (v := .non) (ht _) [16, 17, 18, 19, 20] _ _ fun as3 H3 s3 e3 => ?_
    refine add_errs (js := [0, 1, 2, 3, 4, 5, 6, 7, 8, 9, 10, 11, 12, 13, 14, 15]) (ks := [16, 17, 18, 19, 20]) h2 g2 s3 e3 (by decide) fun l3 G3 h3 g3 z3 n3 => ?_
    have q3 : Same H G3 := q2.trans (s3.trans z3)
    have f3 : H l3 = none := q2.free (s3.free n3)
    refine ⟨_, rfl, ?_⟩
    show tMks K (tC .non) [21, 22, 23, 24, 25, 26] _ _ _
    refine rd_mks (v := .non) (ht _) [21, 22, 23, 24, 25, 26] _ _ fun as4 H4 s4 e4 => ?_
    refine add_errs (js := [0, 1, 2, 3, 4, 5, 6, 7, 8, 9, 10, 11, 12, 13, 14, 15, 16, 17, 18, 19, 20]) (ks := [21, 22, 23, 24, 25, 26]) h3 g3 s4 e4 (by decide) fun l4 G4 h4 g4 z4 n4 => ?_
    have q4 : Same H G4 := q3.trans (s4.trans z4)
    have f4 : H l4 = none := q3.free (s4.free n4)
    refine ⟨_, rfl, ?_⟩
    show tMks K (tC .non) [27] _ _ _
    refine rd_mks (v := .non) (ht _) [27] _ _ fun as5 H5 s5 e5 => ?_
    refine add_errs (js := [0, 1, 2, 3, 4, 5, 6, 7, 8, 9, 10, 11, 12, 13, 14, 15, 16, 17, 18, 19, 20, 21, 22, 23, 24, 25, 26]) (ks := [27]) h4 g4 s5 e5 (by decide) fun l5 G5 h5 g5 z5 n5 => ?_
    have q5 : Same H G5 := q4.trans (s5.trans z5)
    have f5 : H l5 = none := q4.free (s5.free n5)
    have ej : [0, 1, 2, 3, 4, 5, 6, 7, 8, 9, 10, 11, 12, 13, 14, 15, 16, 17, 18, 19, 20, 21, 22, 23, 24, 25, 26] ++ [27] = List.range 28 := by decide
    rw [ej] at g5
    exact ⟨_, rfl, k l5 _ G5 g5 h5 q5 f5⟩
end L2.K01
set_option Elab.async false
set_option linter.all false
set_option maxRecDepth 100000
set_option maxHeartbeats 4000000
namespace L2.K01
open PySem PySem.Spec PyProof.Rows L2.EV
theorem pe_gref {X : Cx} {x : Str} {a : Addr} {pos : Pos} (hm : X.mg x = some (.ref a)) (hg : Gl X x := by rfl) (hd : (x == ("__debug__" : Str)) = false := by decide) : PE X (.Name x pos) (tC (.ref a)) := pe_glob hg hm (show RelV (.ref a) (.ref a) from rfl) hd
theorem IsErr.same {H H' : Hp} {a C : Addr} (e : IsErr H a C) (s : Same H H') : IsErr H' a C := by
  rcases e with ⟨v, e⟩ | e
  · exact .inl ⟨v, e.same s⟩
  · exact .inr (s _ _ e)
/-- xs + [..]: two new lists -/
theorem cat_lst {H : Hp} {l : Addr} {xs ys : List V} {Q : VK} (hl : H l = some (.lst xs)) (hz : xs.length + ys.length ≤ 1000)
    (k : ∀ p H3, H3 p = some (.lst (xs ++ ys)) → Same H H3 → H p = none → Q (.ref p) H3) :
    ys.length ≤ sizeLine ∧ ∀ q, H q = none → rCat (V.ref l) (V.ref q) (upd H q (.lst ys)) Q := by
  refine ⟨Nat.le_of_lt (small1000 (by omega)), fun q hq => ?_⟩
  have s1 : Same H (upd H q (.lst ys)) := same_upd hq
  exact ⟨l, q, _, _, rfl, rfl, s1 _ _ hl, upd_same, Nat.le_of_lt (small1000 hz), fun p hp => k p _ upd_same (s1.trans (same_upd hp)) (s1.free hp)⟩
/-! ### which class an error is of -/
def bij (i j : Nat) : Bool := decide (i = j || j = 30)
def tIsis (K : PySem.W.Frag) : List Nat → TA
  | [] => tNil
  | j :: js => tCons (tCB (rIsV K) (tCons (tVar 0) (tCons (tC (.ref (cl K j))) tNil))) (tIsis K js)
theorem rd_isis {P : Program} {w : World} {K : PySem.W.Frag} {mg : Str → Option Value} {base : Heap} (T : Tx P w K mg base) {σ : St} {a : Addr} {i : Nat} (hi : i < 31) (hσ : σ[0]? = some (some (.ref a))) : ∀ (js : List Nat) (H : Hp) (Q : List V → Hp → Prop),
    (∀ j ∈ js, j < 31) → IsErr H a (cl K i) → Q (js.map fun j => .bl (bij i j)) H → tIsis K js σ H Q
  | [], H, Q, _, _, q => q
  | j :: js, H, Q, hj, he, q => by
    refine ⟨_, hσ, a, cl K i, .ref (cl K j), .ref (cl K j), _, rfl, he, .own _, T.asks i hi, T.kit i j hi (hj j List.mem_cons_self), ?_⟩
    exact rd_isis T hi hσ js H _ (fun k hk => hj k (List.mem_cons_of_mem _ hk)) he q
abbrev sCode : Stmt := top 42
abbrev nCode : List Str := ["_law_error", "_law_found", "_law_at"]
theorem scCode : FnScope nCode ["_law_error"] (defScope sCode) := ⟨rfl, rfl, rfl, by decide +kernel, rfl, by decide +kernel, by decide +kernel⟩
def codeOf (i : Nat) : List Nat := if i < 30 then [i] else []
theorem codeOf_eq : ∀ i, i < 31 → (List.range 30).filter (bij i) = codeOf i := by decide +kernel
def spCode (K : PySem.W.Frag) : Sp := fun vs H Q _ => ∃ (a : Addr) (i : Nat), vs = [.ref a] ∧ i < 31 ∧ IsErr H a (cl K i) ∧
  ∀ (l : Addr) (H' : Hp), H' l = some (.lst ((codeOf i).map fun (j : Nat) => V.int (j : Int))) → Same H H' → H l = none → Q (.ref l) H'
def rLn (K : PySem.W.Frag) : List V → Hp → VK → Prop := fun xs H Q => ∃ p ys, xs = [.ref p] ∧ (SqL K H p ys ∨ SqT K H p ys) ∧ Q (.int ys.length) H
theorem rd_codes {K : PySem.W.Frag} {Q : VK} {a l : Addr} {i : Nat} {H : Hp} (hi : i < 31) (hF : H l = some (.lst ((List.range 30).map fun j => V.bl (bij i j))))
    (k : ∀ (D : Addr) (H' : Hp), H' D = some (.lst ((codeOf i).map fun (j : Nat) => V.int (j : Int))) → Same H H' → H D = none → Q (.ref D) H') :
    tLc (iRng1 (tCons (tCB (rLn K) (tCons (tVar 1) tNil)) tNil)) (gName 2) (tB (tOp (rIxL K) (tVar 1) (tVar 2))) (tVar 2) [2] [some (.ref a), some (.ref l), none] H Q := by
    refine ⟨_, rfl, l, _, rfl, .inl (SqL.of hF), ?_⟩
    rw [List.length_map, List.length_range]
    refine ⟨30, rfl, by decide, by decide, fun D hD => ?_⟩
    refine lc_range (lo := 0) (n := 30) (fun m H' => H' D = some (.lst (((List.range m).filter (bij i)).map fun (j : Nat) => V.int (j : Int))) ∧ Same H H') ⟨upd_same, same_upd hD⟩ ?_ ?_
    · rintro m H' hm ⟨hd, s1⟩
      have h30 : ((List.range 30).map fun j => V.bl (bij i j))[m]? = some (V.bl (bij i m)) := by
        rw [List.getElem?_map, List.getElem?_range hm]
        rfl
      refine ⟨rfl, _, rfl, _, rfl, l, _, _, _, rfl, rfl, SqL.of (s1 _ _ hF), ?_, bij i m, rfl, ?_⟩
      · show atI _ (0 + (m : Int)) = some (V.bl (bij i m))
        rw [Int.zero_add]
        exact atI_nat h30
      · rw [List.range_succ, List.filter_append]
        cases hb : bij i m with
        | true =>
          refine iteT ?_
          refine ⟨_, rfl, _, hd, ?_, ?_, ?_⟩
          · rw [List.length_map]
            exact small1000 (Nat.le_trans (List.length_filter_le _ _) (by rw [List.length_range]; omega))
          · rw [upd_same]
            simp [hb]
          · intro b o e
            have e2 := s1 _ _ e
            rw [upd_ne (ne_of_none e hD)]
            exact e2
        | false =>
          refine iteF ?_
          refine ⟨?_, s1⟩
          rw [hd]
          simp [hb]
    · rintro H' ⟨hd, s1⟩
      rw [codeOf_eq i hi] at hd
      exact k D H' hd s1 hD
end L2.K01
set_option Elab.async false
set_option linter.all false
set_option maxRecDepth 100000
set_option maxHeartbeats 4000000
namespace L2.K01
open PySem PySem.Spec PyProof.Rows L2.EV
theorem ok_code {P : Program} {w : World} {K : PySem.W.Frag} {mg : Str → Option Value} {base : Heap} {f : Addr} {fd : FuncData} (F : FnP K "_law_code" sCode f fd) (T : Tx P w K mg base)
    (mIs : mg "isinstance" = none) (mR : mg "range" = none) (mL : mg "len" = none) : FnOk P w K mg base CX0 1 f fd ["_law_error"] (spCode K) := by
  refine F.ok scCode (fun vs H Q E h => ?_) (fun cdv A outer s H vs Q E hr h => ?_)
  · obtain ⟨a, i, rfl, _⟩ := h
    rfl
  · obtain ⟨a, i, rfl, hi, he, k⟩ := h
    refine ⟨_, PSs.nox (pss_cons (ps_set (i := 1) scCode.nd rfl (by first | exact Or.inl rfl | exact Or.inr rfl) (pe_lst (pa_cons (pe_callB call_isV (by rfl) mIs (by decide +kernel) (pa_cons (pv 0) (pa_cons (pe_gref T.c0.mgx) pa_nil))) (pa_cons (pe_callB call_isV (by rfl) mIs (by decide +kernel) (pa_cons (pv 0) (pa_cons (pe_gref T.c1.mgx) pa_nil))) (pa_cons (pe_callB call_isV (by rfl) mIs (by decide +kernel) (pa_cons (pv 0) (pa_cons (pe_gref T.c2.mgx) pa_nil))) pa_nil)))))
        (pss_cons (ps_set (i := 1) scCode.nd rfl (by first | exact Or.inl rfl | exact Or.inr rfl) (pe_op op_cat (pv 1) (pe_lst (pa_cons (pe_callB call_isV (by rfl) mIs (by decide +kernel) (pa_cons (pv 0) (pa_cons (pe_gref T.c3.mgx) pa_nil))) (pa_cons (pe_callB call_isV (by rfl) mIs (by decide +kernel) (pa_cons (pv 0) (pa_cons (pe_gref T.c4.mgx) pa_nil))) pa_nil)))))
        (pss_cons (ps_set (i := 1) scCode.nd rfl (by first | exact Or.inl rfl | exact Or.inr rfl) (pe_op op_cat (pv 1) (pe_lst (pa_cons (pe_callB call_isV (by rfl) mIs (by decide +kernel) (pa_cons (pv 0) (pa_cons (pe_gref T.c5.mgx) pa_nil))) (pa_cons (pe_callB call_isV (by rfl) mIs (by decide +kernel) (pa_cons (pv 0) (pa_cons (pe_gref T.c6.mgx) pa_nil))) pa_nil)))))
        (pss_cons (ps_set (i := 1) scCode.nd rfl (by first | exact Or.inl rfl | exact Or.inr rfl) (pe_op op_cat (pv 1) (pe_lst (pa_cons (pe_callB call_isV (by rfl) mIs (by decide +kernel) (pa_cons (pv 0) (pa_cons (pe_gref T.c7.mgx) pa_nil))) (pa_cons (pe_callB call_isV (by rfl) mIs (by decide +kernel) (pa_cons (pv 0) (pa_cons (pe_gref T.c8.mgx) pa_nil))) pa_nil)))))
        (pss_cons (ps_set (i := 1) scCode.nd rfl (by first | exact Or.inl rfl | exact Or.inr rfl) (pe_op op_cat (pv 1) (pe_lst (pa_cons (pe_callB call_isV (by rfl) mIs (by decide +kernel) (pa_cons (pv 0) (pa_cons (pe_gref T.c9.mgx) pa_nil))) (pa_cons (pe_callB call_isV (by rfl) mIs (by decide +kernel) (pa_cons (pv 0) (pa_cons (pe_gref T.c10.mgx) pa_nil))) pa_nil)))))
        (pss_cons (ps_set (i := 1) scCode.nd rfl (by first | exact Or.inl rfl | exact Or.inr rfl) (pe_op op_cat (pv 1) (pe_lst (pa_cons (pe_callB call_isV (by rfl) mIs (by decide +kernel) (pa_cons (pv 0) (pa_cons (pe_gref T.c11.mgx) pa_nil))) (pa_cons (pe_callB call_isV (by rfl) mIs (by decide +kernel) (pa_cons (pv 0) (pa_cons (pe_gref T.c12.mgx) pa_nil))) pa_nil)))))
        (pss_cons (ps_set (i := 1) scCode.nd rfl (by first | exact Or.inl rfl | exact Or.inr rfl) (pe_op op_cat (pv 1) (pe_lst (pa_cons (pe_callB call_isV (by rfl) mIs (by decide +kernel) (pa_cons (pv 0) (pa_cons (pe_gref T.c13.mgx) pa_nil))) (pa_cons (pe_callB call_isV (by rfl) mIs (by decide +kernel) (pa_cons (pv 0) (pa_cons (pe_gref T.c14.mgx) pa_nil))) pa_nil)))))
        (pss_cons (ps_set (i := 1) scCode.nd rfl (by first | exact Or.inl rfl | exact Or.inr rfl) (pe_op op_cat (pv 1) (pe_lst (pa_cons (pe_callB call_isV (by rfl) mIs (by decide +kernel) (pa_cons (pv 0) (pa_cons (pe_gref T.c15.mgx) pa_nil))) (pa_cons (pe_callB call_isV (by rfl) mIs (by decide +kernel) (pa_cons (pv 0) (pa_cons (pe_gref T.c16.mgx) pa_nil))) pa_nil)))))
        (pss_cons (ps_set (i := 1) scCode.nd rfl (by first | exact Or.inl rfl | exact Or.inr rfl) (pe_op op_cat (pv 1) (pe_lst (pa_cons (pe_callB call_isV (by rfl) mIs (by decide +kernel) (pa_cons (pv 0) (pa_cons (pe_gref T.c17.mgx) pa_nil))) (pa_cons (pe_callB call_isV (by rfl) mIs (by decide +kernel) (pa_cons (pv 0) (pa_cons (pe_gref T.c18.mgx) pa_nil))) pa_nil)))))
        (pss_cons (ps_set (i := 1) scCode.nd rfl (by first | exact Or.inl rfl | exact Or.inr rfl) (pe_op op_cat (pv 1) (pe_lst (pa_cons (pe_callB call_isV (by rfl) mIs (by decide +kernel) (pa_cons (pv 0) (pa_cons (pe_gref T.c19.mgx) pa_nil))) (pa_cons (pe_callB call_isV (by rfl) mIs (by decide +kernel) (pa_cons (pv 0) (pa_cons (pe_gref T.c20.mgx) pa_nil))) pa_nil)))))
        (pss_cons (ps_set (i := 1) scCode.nd rfl (by first | exact Or.inl rfl | exact Or.inr rfl) (pe_op op_cat (pv 1) (pe_lst (pa_cons (pe_callB call_isV (by rfl) mIs (by decide +kernel) (pa_cons (pv 0) (pa_cons (pe_gref T.c21.mgx) pa_nil))) (pa_cons (pe_callB call_isV (by rfl) mIs (by decide +kernel) (pa_cons (pv 0) (pa_cons (pe_gref T.c22.mgx) pa_nil))) pa_nil)))))
        (pss_cons (ps_set (i := 1) scCode.nd rfl (by first | exact Or.inl rfl | exact Or.inr rfl) (pe_op op_cat (pv 1) (pe_lst (pa_cons (pe_callB call_isV (by rfl) mIs (by decide +kernel) (pa_cons (pv 0) (pa_cons (pe_gref T.c23.mgx) pa_nil))) (pa_cons (pe_callB call_isV (by rfl) mIs (by decide +kernel) (pa_cons (pv 0) (pa_cons (pe_gref T.c24.mgx) pa_nil))) pa_nil)))))
        (pss_cons (ps_set (i := 1) scCode.nd rfl (by first | exact Or.inl rfl | exact Or.inr rfl) (pe_op op_cat (pv 1) (pe_lst (pa_cons (pe_callB call_isV (by rfl) mIs (by decide +kernel) (pa_cons (pv 0) (pa_cons (pe_gref T.c25.mgx) pa_nil))) (pa_cons (pe_callB call_isV (by rfl) mIs (by decide +kernel) (pa_cons (pv 0) (pa_cons (pe_gref T.c26.mgx) pa_nil))) (pa_cons (pe_callB call_isV (by rfl) mIs (by decide +kernel) (pa_cons (pv 0) (pa_cons (pe_gref T.c27.mgx) pa_nil))) pa_nil))))))
        (pss_cons (ps_set (i := 1) scCode.nd rfl (by first | exact Or.inl rfl | exact Or.inr rfl) (pe_op op_cat (pv 1) (pe_lst (pa_cons (pe_callB call_isV (by rfl) mIs (by decide +kernel) (pa_cons (pv 0) (pa_cons (pe_gref T.m28) pa_nil))) (pa_cons (pe_callB call_isV (by rfl) mIs (by decide +kernel) (pa_cons (pv 0) (pa_cons (pe_gref T.m29) pa_nil))) pa_nil)))))
        (pss_one (ps_ret (pe_lc (own := [("_law_at", 2)]) (g := gName 2) (tt := tB (tOp (rIxL K) (tVar 1) (tVar 2))) (by rfl) scCode.nd
          (pi_range1 (by rfl) mR (pa_cons (pe_callB call_len_seq (by rfl) mL PySem.boot_len (pa_cons (pv 1) pa_nil)) pa_nil))
          (blkOk_by (own := [("_law_at", 2)]) (N := nCode) (sc := defScope sCode) (by decide +kernel)) (fun _ _ _ _ _ => pg_name (i := 2) scCode.nd rfl (Or.inl rfl))
          (fun _ _ _ _ _ => pts_one (pt_val (pe_ix ix_list (pv 1) (pv 2) (fun _ _ => rfl)))) (fun _ _ _ _ _ => pv 2)))))))))))))))))), ?_⟩
    refine seq_of (asg_lst ?_)
    show tIsis K [0, 1, 2] _ _ _
    refine rd_isis T hi rfl [0, 1, 2] H _ (by decide) he ⟨Nat.le_of_lt (small1000 (by rw [List.length_map]; decide)), fun l0 hl0 => ?_⟩
    have h0 : upd H l0 (.lst ([0, 1, 2].map fun j => V.bl (bij i j))) l0 = some (.lst ([0, 1, 2].map fun j => V.bl (bij i j))) := upd_same
    have q0 : Same H (upd H l0 (.lst ([0, 1, 2].map fun j => V.bl (bij i j)))) := same_upd hl0
    have f0 : H l0 = none := hl0
    generalize upd H l0 (.lst ([0, 1, 2].map fun j => V.bl (bij i j))) = G0 at h0 q0
    refine ⟨_, rfl, ?_⟩
    show tIsis K [3, 4] _ _ _
    refine rd_isis T hi rfl [3, 4] G0 _ (by decide) (IsErr.same he q0) (cat_lst h0 (by rw [List.length_map, List.length_map]; decide) fun l1 G1 h1 z1 n1 => ?_)
    have q1 : Same H G1 := q0.trans z1
    have f1 : H l1 = none := q0.free n1
    rw [← List.map_append] at h1
    refine ⟨_, rfl, ?_⟩
    show tIsis K [5, 6] _ _ _
    refine rd_isis T hi rfl [5, 6] G1 _ (by decide) (IsErr.same he q1) (cat_lst h1 (by rw [List.length_map, List.length_map]; decide) fun l2 G2 h2 z2 n2 => ?_)
    have q2 : Same H G2 := q1.trans z2
    have f2 : H l2 = none := q1.free n2
    rw [← List.map_append] at h2
    refine ⟨_, rfl, ?_⟩
    show tIsis K [7, 8] _ _ _
    refine rd_isis T hi rfl [7, 8] G2 _ (by decide) (IsErr.same he q2) (cat_lst h2 (by rw [List.length_map, List.length_map]; decide) fun l3 G3 h3 z3 n3 => ?_)
    have q3 : Same H G3 := q2.trans z3
    have f3 : H l3 = none := q2.free n3
    rw [← List.map_append] at h3
    refine ⟨_, rfl, ?_⟩
    show tIsis K [9, 10] _ _ _
    refine rd_isis T hi rfl [9, 10] G3 _ (by decide) (IsErr.same he q3) (cat_lst h3 (by rw [List.length_map, List.length_map]; decide) fun l4 G4 h4 z4 n4 => ?_)
    have q4 : Same H G4 := q3.trans z4
    have f4 : H l4 = none := q3.free n4
    rw [← List.map_append] at h4
    refine ⟨_, rfl, ?_⟩
    show tIsis K [11, 12] _ _ _
    refine rd_isis T hi rfl [11, 12] G4 _ (by decide) (IsErr.same he q4) (cat_lst h4 (by rw [List.length_map, List.length_map]; decide) fun l5 G5 h5 z5 n5 => ?_)
    have q5 : Same H G5 := q4.trans z5
    have f5 : H l5 = none := q4.free n5
    rw [← List.map_append] at h5
    refine ⟨_, rfl, ?_⟩
    show tIsis K [13, 14] _ _ _
    refine rd_isis T hi rfl [13, 14] G5 _ (by decide) (IsErr.same he q5) (cat_lst h5 (by rw [List.length_map, List.length_map]; decide) fun l6 G6 h6 z6 n6 => ?_)
    have q6 : Same H G6 := q5.trans z6
    have f6 : H l6 = none := q5.free n6
    rw [← List.map_append] at h6
    refine ⟨_, rfl, ?_⟩
    show tIsis K [15, 16] _ _ _
    refine rd_isis T hi rfl [15, 16] G6 _ (by decide) (IsErr.same he q6) (cat_lst h6 (by rw [List.length_map, List.length_map]; decide) fun l7 G7 h7 z7 n7 => ?_)
    have q7 : Same H G7 := q6.trans z7
    have f7 : H l7 = none := q6.free n7
    rw [← List.map_append] at h7
    refine ⟨_, rfl, ?_⟩
    show tIsis K [17, 18] _ _ _
    refine rd_isis T hi rfl [17, 18] G7 _ (by decide) (IsErr.same he q7) (cat_lst h7 (by rw [List.length_map, List.length_map]; decide) fun l8 G8 h8 z8 n8 => ?_)
    have q8 : Same H G8 := q7.trans z8
    have f8 : H l8 = none := q7.free n8
    rw [← List.map_append] at h8
    refine ⟨_, rfl, ?_⟩
    show tIsis K [19, 20] _ _ _
    refine rd_isis T hi rfl [19, 20] G8 _ (by decide) (IsErr.same he q8) (cat_lst h8 (by rw [List.length_map, List.length_map]; decide) fun l9 G9 h9 z9 n9 => ?_)
    have q9 : Same H G9 := q8.trans z9
    have f9 : H l9 = none := q8.free n9
    rw [← List.map_append] at h9
    refine ⟨_, rfl, ?_⟩
    show tIsis K [21, 22] _ _ _
    refine rd_isis T hi rfl [21, 22] G9 _ (by decide) (IsErr.same he q9) (cat_lst h9 (by rw [List.length_map, List.length_map]; decide) fun l10 G10 h10 z10 n10 => ?_)
    have q10 : Same H G10 := q9.trans z10
    have f10 : H l10 = none := q9.free n10
    rw [← List.map_append] at h10
    refine ⟨_, rfl, ?_⟩
    show tIsis K [23, 24] _ _ _
    refine rd_isis T hi rfl [23, 24] G10 _ (by decide) (IsErr.same he q10) (cat_lst h10 (by rw [List.length_map, List.length_map]; decide) fun l11 G11 h11 z11 n11 => ?_)
    have q11 : Same H G11 := q10.trans z11
    have f11 : H l11 = none := q10.free n11
    rw [← List.map_append] at h11
    refine ⟨_, rfl, ?_⟩
    show tIsis K [25, 26, 27] _ _ _
    refine rd_isis T hi rfl [25, 26, 27] G11 _ (by decide) (IsErr.same he q11) (cat_lst h11 (by rw [List.length_map, List.length_map]; decide) fun l12 G12 h12 z12 n12 => ?_)
    have q12 : Same H G12 := q11.trans z12
    have f12 : H l12 = none := q11.free n12
    rw [← List.map_append] at h12
    refine ⟨_, rfl, ?_⟩
    show tIsis K [28, 29] _ _ _
    refine rd_isis T hi rfl [28, 29] G12 _ (by decide) (IsErr.same he q12) (cat_lst h12 (by rw [List.length_map, List.length_map]; decide) fun l13 G13 h13 z13 n13 => ?_)
    have q13 : Same H G13 := q12.trans z13
    have f13 : H l13 = none := q12.free n13
    rw [← List.map_append] at h13
    have er : ((((((((((((([0, 1, 2] ++ [3, 4]) ++ [5, 6]) ++ [7, 8]) ++ [9, 10]) ++ [11, 12]) ++ [13, 14]) ++ [15, 16]) ++ [17, 18]) ++ [19, 20]) ++ [21, 22]) ++ [23, 24]) ++ [25, 26, 27]) ++ [28, 29]) = List.range 30 := by decide
    rw [er] at h13
    have hF := h13
    exact rd_codes (a := a) hi hF fun D H' h1 h2 h3 => k D H' h1 (q13.trans h2) (q13.free h3)
end L2.K01
set_option Elab.async false
set_option linter.all false
set_option maxRecDepth 100000
set_option maxHeartbeats 4000000
namespace L2.K01
open PySem PySem.Spec PyProof.Rows L2.EV
/-! ### whether it is an error at all -/
abbrev sIs : Stmt := top 43
theorem scIs : FnScope ["_law_error"] ["_law_error"] (defScope sIs) := ⟨rfl, rfl, rfl, by decide +kernel, rfl, by decide +kernel, by decide +kernel⟩
def spIs (K : PySem.W.Frag) : Sp := fun vs H Q _ => ∃ (a : Addr) (i : Nat), vs = [.ref a] ∧ i < 31 ∧ IsErr H a (cl K i) ∧ Q (.bl true) H
theorem ok_is {P : Program} {w : World} {K : PySem.W.Frag} {mg : Str → Option Value} {base : Heap} {f : Addr} {fd : FuncData} (F : FnP K "_law_is_error" sIs f fd) (T : Tx P w K mg base)
    (mIs : mg "isinstance" = none) (mV : mg "ValueError" = none) : FnOk P w K mg base CX0 1 f fd ["_law_error"] (spIs K) := by
  refine F.ok scIs (fun vs H Q E h => ?_) (fun cdv A outer s H vs Q E hr h => ?_)
  · obtain ⟨a, i, rfl, _⟩ := h
    rfl
  · obtain ⟨a, i, rfl, hi, he, k⟩ := h
    refine ⟨_, PSs.nox (pss_one (ps_ret (pe_and (pe_callB call_isV (by rfl) mIs (by decide +kernel) (pa_cons (pv 0) (pa_cons (pe_gref T.m30) pa_nil)))
      (pe_one (pe_callB call_isV (by rfl) mIs (by decide +kernel) (pa_cons (pv 0) (pa_cons (pe_bltn (v := .ty "ValueError") (u := .type "ValueError") (by rfl) mV (by decide +kernel) rfl) pa_nil))))))), ?_⟩
    have h30 := T.kit i 30 hi (by decide)
    rw [show decide (i = 30 || 30 = 30) = true by simp] at h30
    refine ⟨_, rfl, a, cl K i, .ref (cl K 30), .ref (cl K 30), true, rfl, he, .own _, T.asks i hi, h30, true, rfl, iteT ?_⟩
    exact ⟨_, rfl, a, cl K i, .ty "ValueError", .type "ValueError", true, rfl, he, .ty _, T.asks i hi, T.kitV i hi, k⟩
/-! ### whether all are right -/
/-- D: a list of so many lists of one number, 0, 1 and so on -/
def Cells (H : Hp) (D : Addr) (n : Nat) (rs : List Addr) : Prop := rs.length = n ∧ H D = some (.lst (rs.map V.ref)) ∧ ∀ (j : Nat) (r : Addr), rs[j]? = some r → H r = some (.lst [.int (j : Int)]) ∧ r ≠ D
theorem Cells.same {H H' : Hp} {D : Addr} {n : Nat} {rs : List Addr} (c : Cells H D n rs) (s : Same H H') : Cells H' D n rs := ⟨c.1, s _ _ c.2.1, fun j r h => ⟨s _ _ (c.2.2 j r h).1, (c.2.2 j r h).2⟩⟩
theorem Cells.step {H : Hp} {D r : Addr} {n : Nat} {rs : List Addr} (c : Cells H D n rs) (h : H r = some (.lst [.int (n : Int)])) (ne : r ≠ D) : Cells (upd H D (.lst (rs.map V.ref ++ [.ref r]))) D (n + 1) (rs ++ [r]) := by
  refine ⟨by rw [List.length_append, c.1]; rfl, by rw [upd_same]; simp, fun j q hq => ?_⟩
  have nd : q ≠ D ∧ H q = some (.lst [.int (j : Int)]) := by
    by_cases hj : j < rs.length
    · rw [List.getElem?_append_left hj] at hq
      exact ⟨(c.2.2 j q hq).2, (c.2.2 j q hq).1⟩
    · rw [List.getElem?_append_right (by omega)] at hq
      have e0 : j - rs.length = 0 := by
        by_cases z : j - rs.length = 0
        · exact z
        · rw [List.getElem?_eq_none_iff.mpr (by simp; omega)] at hq
          cases hq
      rw [e0] at hq
      have eq : r = q := Option.some.inj hq
      have ej : j = n := by have := c.1; omega
      rw [← eq, ej]
      exact ⟨ne, h⟩
  exact ⟨by rw [upd_ne nd.1]; exact nd.2, nd.1⟩
theorem dp_cells {K : PySem.W.Frag} {H : Hp} : ∀ (rs : List Addr) (k : Nat), (∀ (j : Nat) (r : Addr), rs[j]? = some r → H r = some (.lst [.int ((k + j : Nat) : Int)])) →
    DpAll K H (rs.map V.ref) ((List.range' k rs.length).map fun (j : Nat) => PyData.list [.int (j : Int)])
  | [], _, _ => .nil
  | r :: rs, k, h => by
    refine .cons (.lst (SqL.of (h 0 r rfl)) (.cons (.int _) .nil)) ?_
    exact dp_cells rs (k + 1) fun j q hq => by
      have := h (j + 1) q (by simpa using hq)
      rw [show k + (j + 1) = k + 1 + j by omega] at this
      exact this
abbrev d28 : PyData := .list ((List.range' 0 28).map fun (j : Nat) => PyData.list [.int (j : Int)])
theorem shaped28 : SeqAt.shaped d28 = true := by decide +kernel
theorem Cells.dp {K : PySem.W.Frag} {H : Hp} {D : Addr} {rs : List Addr} (c : Cells H D 28 rs) : Dp K H (.ref D) d28 := by
  have := dp_cells (K := K) (H := H) rs 0 fun j r h => by
    rw [Nat.zero_add]
    exact (c.2.2 j r h).1
  rw [c.1] at this
  exact .lst (SqL.of c.2.1) this
abbrev sRight : Stmt := top 44
abbrev nRight : List Str := ["_law_some", "_law_noted", "_law_error", "_law_at"]
theorem scRight : FnScope nRight ["_law_some", "_law_noted"] (defScope sRight) := ⟨rfl, rfl, rfl, by decide +kernel, rfl, by decide +kernel, by decide +kernel⟩
/-- a thing that can be shown -/
def Shows (H : Hp) (v : V) (d : PyData) : Prop := DpX H v d ∧ d.showable = true ∧ d.shown.length ≤ sizeLine ∧ d.depth ≤ 60
theorem Shows.same {H H' : Hp} {v : V} {d : PyData} (e : Shows H v d) (s : Same H H') : Shows H' v d := ⟨e.1.same s, e.2⟩
def spRight (K : PySem.W.Frag) : Sp := fun vs H Q _ => ∃ (l : Addr) (es : List Addr) (v : V) (d : PyData), vs = [.ref l, .str d.shown] ∧ H l = some (.lst (es.map V.ref)) ∧ Errs K H v es (List.range 28) ∧ Shows H v d ∧
  ∀ H', Same H H' → Q (.bl true) H'
theorem ok_right {P : Program} {w : World} {K : PySem.W.Frag} {mg : Str → Option Value} {base : Heap} {f fC fI : Addr} {fd fdC fdI : FuncData} (F : FnP K "_law_right" sRight f fd) (T : Tx P w K mg base)
    (GC : FnOk P w K mg base CX0 1 fC fdC ["_law_error"] (spCode K)) (bC : Binds K fdC ["_law_error"] []) (kC : PySem.W.keepIn K (.ref fC) = true) (gC : mg "_law_code" = some (.ref fC))
    (GI : FnOk P w K mg base CX0 1 fI fdI ["_law_error"] (spIs K)) (bI : Binds K fdI ["_law_error"] []) (kI : PySem.W.keepIn K (.ref fI) = true) (gI : mg "_law_is_error" = some (.ref fI))
    (mR : mg "range" = none) (mP : mg "repr" = none) : FnG P w K mg base 2 f fd ["_law_some", "_law_noted"] (spRight K) := by
  refine fnG_of F scRight (fun vs H Q E h => ?_) (fun cdv A outer s H vs Q E hgd hr h => ?_)
  · obtain ⟨l, es, v, d, rfl, _⟩ := h
    rfl
  · obtain ⟨l, es, v, d, rfl, hl, he, hv, k⟩ := h
    have hu := hr.units
    have e28 : es.length = 28 := he.1
    have err : ∀ {H' : Hp} {i : Nat} {e : Addr}, Same H H' → es[i]? = some e → i < 28 ∧ ErrO H' e (cl K i) v := fun {H' i e} s1 h1 => by
      have hi : i < es.length := (List.getElem?_eq_some_iff.mp h1).1
      exact ⟨by omega, (he.2 i e i h1 (List.getElem?_range (by omega))).same s1⟩
    have item : ∀ {i : Nat} {x : V}, (es.map V.ref)[i]? = some x → ∃ e, es[i]? = some e ∧ x = .ref e := fun {i x} h1 => by
      rw [List.getElem?_map] at h1
      cases q : es[i]? with
      | none => rw [q] at h1; cases h1
      | some e => rw [q] at h1; exact ⟨e, rfl, (Option.some.inj h1).symm⟩
    refine ⟨_, PSs.nox (pss_cons (ps_if (pt_cmpR (op_neD hu)
        (pe_lc (own := [("_law_error", 2)]) (g := gName 2) (tt := tYes) (by rfl) scRight.nd (pi_list (pv 0)) (blkOk_by (own := [("_law_error", 2)]) (N := nRight) (sc := defScope sRight) (by decide +kernel))
          (fun _ _ _ _ _ => pg_name (i := 2) scRight.nd rfl (Or.inl rfl)) (fun _ _ _ _ _ => pts_nil) (fun _ _ _ _ _ => pe_call GC hr (by rfl) gC kC bC .nil pass0 (pa_cons (pv 2) pa_nil)))
        (pe_lc (own := [("_law_at", 3)]) (g := gName 3) (tt := tYes) (by rfl) scRight.nd (pi_range1 (by rfl) mR (pa_cons pe_int pa_nil)) (blkOk_by (own := [("_law_at", 3)]) (N := nRight) (sc := defScope sRight) (by decide +kernel))
          (fun _ _ _ _ _ => pg_name (i := 3) scRight.nd rfl (Or.inl rfl)) (fun _ _ _ _ _ => pts_nil) (fun _ _ _ _ _ => pe_lst (pa_cons (pv 3) pa_nil))) (nomark _))
        (pss_one (ps_ret pe_bl)) pss_nil)
      (pss_one (ps_ret (pe_cmpR (op_eqD hu)
        (pe_lc (own := [("_law_error", 2)]) (g := gName 2) (tt := tOr (tNot (tB (tCall (spIs K) [] E0 (tCons (tVar 2) tNil)))) (tTest (tOp rNe (tCB rRepr (tCons (tValV K (tVar 2)) tNil)) (tVar 1)))) (by rfl) scRight.nd (pi_list (pv 0))
          (blkOk_by (own := [("_law_error", 2)]) (N := nRight) (sc := defScope sRight) (by decide +kernel))
          (fun _ _ _ _ _ => pg_name (i := 2) scRight.nd rfl (Or.inl rfl))
          (fun _ _ _ _ _ => pts_one (PW.pt (pw_or (pt_not (pt_val (pe_call GI hr (by rfl) gI kI bI .nil pass0 (pa_cons (pv 2) pa_nil)))) (pw_or1 (pt_cmpR op_ne (pe_callB (call_repr hgd hu T.sys) (by rfl) mP (by decide +kernel) (pa_cons (pe_valV (pv 2)) pa_nil)) (pv 1) (nomark _))))))
          (fun _ _ _ _ _ => pv 2)) (pe_lst pa_nil) (nomark _))))), ?_⟩
    refine ⟨_, rfl, l, rfl, ⟨_, SqL.of hl⟩, fun D hD => ?_⟩
    refine lc_list (K := K) (a := l) (xs := es.map V.ref) (fun i H' => ∃ rs, Cells H' D i rs ∧ Same H H') ⟨[], ⟨rfl, upd_same, fun j r h => by cases h⟩, same_upd hD⟩ (fun i H' _ ⟨_, _, s1⟩ => SqL.of (s1 _ _ hl)) ?_ ?_
    · rintro i x H' hx ⟨rs, c, s1⟩
      obtain ⟨e, h1, rfl⟩ := item hx
      obtain ⟨hi, ho⟩ := err s1 h1
      refine ⟨rfl, ?_⟩
      dsimp only [tYes]
      rw [if_pos rfl]
      refine ⟨_, rfl, e, i, rfl, by omega, .inl ⟨v, ho⟩, fun r H2 h2 s2 n2 => ?_⟩
      rw [show codeOf i = [i] from if_pos (by omega)] at h2
      have c2 := c.same s2
      have ne : r ≠ D := by
        intro z
        rw [z, c.2.1] at n2
        cases n2
      refine ⟨_, c2.2.1, ?_, rs ++ [r], c2.step h2 ne, fun b o z => ?_⟩
      · rw [List.length_map, c.1]
        exact small1000 (by omega)
      · rw [upd_ne (ne_of_none z hD)]
        exact s2 _ _ (s1 _ _ z)
    · rintro H1 ⟨rs, c, s1⟩
      rw [List.length_map, e28] at c
      refine ⟨28, rfl, by decide, by decide, fun D2 hD2 => ?_⟩
      refine lc_range (lo := 0) (n := 28) (fun i H' => ∃ qs, Cells H' D2 i qs ∧ Same H1 H') ⟨[], ⟨rfl, upd_same, fun j r h => by cases h⟩, same_upd hD2⟩ ?_ ?_
      · rintro i H' hi ⟨qs, c2, s2⟩
        refine ⟨rfl, ?_⟩
        dsimp only [tYes]
        rw [if_pos rfl]
        refine ⟨_, rfl, (by show 1 ≤ sizeLine; decide), fun q hq => ?_⟩
        have s3 : Same H' (upd H' q (.lst [.int (0 + (i : Int))])) := same_upd hq
        have h2 : upd H' q (.lst [.int (0 + (i : Int))]) q = some (.lst [.int (i : Int)]) := by rw [upd_same, Int.zero_add]
        have c3 := c2.same s3
        have ne : q ≠ D2 := by
          intro z
          rw [z, c2.2.1] at hq
          cases hq
        refine ⟨_, c3.2.1, ?_, qs ++ [q], c3.step h2 ne, fun b o z => ?_⟩
        · rw [List.length_map, c2.1]
          exact small1000 (by omega)
        · rw [upd_ne (ne_of_none z hD2)]
          exact s3 _ _ (s2 _ _ z)
      · rintro H2 ⟨qs, c2, s2⟩
        have s02 : Same H H2 := s1.trans s2
        refine ⟨d28, d28, (c.same s2).dp, c2.dp, shaped28, shaped28, _, rfl, ?_⟩
        rw [SeqAt.eqv_refl d28 (SeqAt.canLay_of_shaped shaped28)]
        refine iteF ?_
        refine ⟨_, rfl, l, rfl, ⟨_, SqL.of (s02 _ _ hl)⟩, fun D3 hD3 => ?_⟩
        refine lc_list (K := K) (a := l) (xs := es.map V.ref) (fun i H' => H' D3 = some (.lst []) ∧ Same H2 H') ⟨upd_same, same_upd hD3⟩ (fun i H' _ ⟨_, s3⟩ => SqL.of (s3 _ _ (s02 _ _ hl))) ?_ ?_
        · rintro i x H' hx ⟨h3, s3⟩
          obtain ⟨e, h1, rfl⟩ := item hx
          obtain ⟨hi, ho⟩ := err (s02.trans s3) h1
          obtain ⟨dx, sh, ln, dp⟩ := hv.same (s02.trans s3)
          obtain ⟨fE, fdE, eE, _⟩ : ∃ (fE : Addr) (fdE : FuncData), Err K (cl K i) fE ∧ True := by
            have all : ∀ j, j < 28 → ∃ fE, Err K (cl K j) fE := T.errs
            obtain ⟨fE, z⟩ := all i hi
            exact ⟨fE, fd, z, trivial⟩
          refine ⟨rfl, _, rfl, e, i, rfl, by omega, .inl ⟨v, ho⟩, true, rfl, ?_⟩
          refine iteF ?_
          refine ⟨_, rfl, e, cl K i, fE, v, rfl, eE, ho, v, d, rfl, dx, sh, ln, dp, _, rfl, rfl, _, rfl, ?_⟩
          rw [decide_eq_true rfl]
          exact iteF ⟨h3, s3⟩
        · rintro H3 ⟨h3, s3⟩
          refine ⟨(by decide), fun q hq => ?_⟩
          have s4 : Same H3 (upd H3 q (.lst [])) := same_upd hq
          refine ⟨.list [], .list [], .lst (SqL.of (s4 _ _ h3)) .nil, .lst (SqL.of upd_same) .nil, by decide +kernel, by decide +kernel, ?_⟩
          rw [SeqAt.eqv_refl (.list []) (by decide +kernel)]
          exact k _ (s02.trans (s3.trans s4))
end L2.K01
set_option Elab.async false
set_option linter.all false
set_option maxRecDepth 100000
set_option maxHeartbeats 4000000
namespace L2.K01
open PySem PySem.Spec PyProof.Rows L2.EV
/-! ### what the things look like when they are shown -/
theorem piled_all {B : Nat} : ∀ ds : List PyData, (∀ d ∈ ds, d.shown.length ≤ B) → piled (PyData.shownAll ds) ≤ ds.length * (B + 2)
  | [], _ => by simp [PyData.shownAll, piled_nil]
  | d :: ds, h => by
    have h1 := h d List.mem_cons_self
    have h2 := piled_all ds fun e he => h e (List.mem_cons_of_mem _ he)
    simp only [PyData.shownAll, piled_cons, List.length_cons, Nat.succ_mul]
    omega
theorem list_len {B : Nat} {ds : List PyData} (h : ∀ d ∈ ds, d.shown.length ≤ B) : (PyData.list ds).shown.length ≤ ds.length * (B + 2) + 2 := by
  have h1 := piled_all ds h
  have h2 := list_le (PyData.shownAll ds)
  simp only [PyData.shown]
  omega
theorem tuple_len {B : Nat} {ds : List PyData} (h : ∀ d ∈ ds, d.shown.length ≤ B) : (PyData.tuple ds).shown.length ≤ ds.length * (B + 2) + 3 := by
  have h1 := piled_all ds h
  have h2 := tuple_le (PyData.shownAll ds)
  simp only [PyData.shown]
  omega
theorem dict_len1 {B : Nat} {k v : PyData} (hk : k.shown.length ≤ B) (hv : v.shown.length ≤ B) : (PyData.dict [(k, v)]).shown.length ≤ 2 * B + 6 := by
  have h2 := dict_le (PyData.shownKv [(k, v)])
  have e : (": " : Str).length = 2 := rfl
  simp only [PyData.shown, PyData.shownKv]
  simp only [PyData.shownKv, piled_cons, piled_nil, len_app] at h2
  omega
theorem dict_len2 {B : Nat} {k v k' v' : PyData} (hk : k.shown.length ≤ B) (hv : v.shown.length ≤ B) (hk' : k'.shown.length ≤ B) (hv' : v'.shown.length ≤ B) : (PyData.dict [(k, v), (k', v')]).shown.length ≤ 4 * B + 10 := by
  have h2 := dict_le (PyData.shownKv [(k, v), (k', v')])
  have e : (": " : Str).length = 2 := rfl
  simp only [PyData.shown, PyData.shownKv]
  simp only [PyData.shownKv, piled_cons, piled_nil, len_app] at h2
  omega
theorem word_len {w : Str} (h : Word w) : (PyData.str w).shown.length ≤ 100 := by
  have := str_le h.codes
  have := h.1.2
  omega
theorem int_len {i : Int} (h : i.natAbs < 2 ^ 31) : (PyData.int i).shown.length ≤ 100 := by
  have e : (PyData.int i).shown = Str.ofString (toString i) := by simp only [PyData.shown]
  rw [e]
  rw [PySem.ofString_length]
  have := int_text_length_le10 (a := i) (k := 10) (by decide) (by omega)
  omega
def later : PyData := .str "later"
theorem later_len : later.shown.length ≤ 100 := by
  have h : Codes ("later" : Str) := by
    intro c hc
    have : ("later" : Str).cps.toList = [108, 97, 116, 101, 114] := by decide +kernel
    rw [this] at hc
    simp at hc
    omega
  have := str_le h
  have e : ("later" : Str).length = 5 := by decide +kernel
  unfold later
  omega
end L2.K01
set_option Elab.async false
set_option linter.all false
set_option maxRecDepth 100000
set_option maxHeartbeats 4000000
namespace L2.K01
open PySem PySem.Spec PyProof.Rows L2.EV
/-! ### the drawn thing. Hs: the heap ahead; what may be changed was not there -/
inductive Thing (Hs H : Hp) (w : Str) : V → Prop
  | non : Thing Hs H w .non
  | bl (b : Bool) : Thing Hs H w (.bl b)
  | int {i : Int} : i.natAbs < 2 ^ 31 → Thing Hs H w (.int i)
  | str : Thing Hs H w (.str w)
  | tup3 {t : Addr} : H t = some (.tup [.str "fill", .int 1, .int 2]) → Thing Hs H w (.ref t)
  | tup2 {t q : Addr} : H t = some (.tup [.str w, .ref q]) → H q = some (.lst [.str w]) → Hs q = none → Thing Hs H w (.ref t)
  | dct {a q : Addr} : H a = some (.dK [(.inr w, .ref q)]) → H q = some (.lst [.str w]) → Hs a = none → Hs q = none → Thing Hs H w (.ref a)
  | lst1 {a : Addr} : H a = some (.lst [.str w]) → Hs a = none → Thing Hs H w (.ref a)
  | lst2 {a q b : Addr} : H a = some (.lst [.ref q, .ref b]) → H q = some (.lst [.str w]) → H b = some (.dK [(.inr "out", .str w)]) → Hs a = none → Thing Hs H w (.ref a)
theorem Thing.same {Hs H H' : Hp} {w : Str} {x : V} (h : Thing Hs H w x) (s : Same H H') : Thing Hs H' w x := by
  cases h with
  | non => exact .non
  | bl b => exact .bl b
  | int h => exact .int h
  | str => exact .str
  | tup3 h => exact .tup3 (s _ _ h)
  | tup2 h1 h2 h3 => exact .tup2 (s _ _ h1) (s _ _ h2) h3
  | dct h1 h2 h3 h4 => exact .dct (s _ _ h1) (s _ _ h2) h3 h4
  | lst1 h1 h2 => exact .lst1 (s _ _ h1) h2
  | lst2 h1 h2 h3 h4 => exact .lst2 (s _ _ h1) (s _ _ h2) (s _ _ h3) h4
/-- behind a draw -/
theorem Thing.but {Hs H H' : Hp} {w : Str} {x : V} {p : Addr} {n : Nat} (h : Thing Hs H w x) (hp : PurseAt H p n) (s : But p H H') : Thing Hs H' w x := by
  obtain ⟨c, z, t, a, hp, _⟩ := hp
  have k : ∀ {b : Addr} {o : HO}, H b = some o → o ≠ .lst [.int c, .int z, .int t, .int a] → H' b = some o := fun {b o} e ne => (s b (ne_of e hp ne)).trans e
  cases h with
  | non => exact .non
  | bl b => exact .bl b
  | int h => exact .int h
  | str => exact .str
  | tup3 h => exact .tup3 (k h fun e => by cases e)
  | tup2 h1 h2 h3 => exact .tup2 (k h1 fun e => by cases e) (k h2 fun e => by cases e) h3
  | dct h1 h2 h3 h4 => exact .dct (k h1 fun e => by cases e) (k h2 fun e => by cases e) h3 h4
  | lst1 h1 h2 => exact .lst1 (k h1 fun e => by cases e) h2
  | lst2 h1 h2 h3 h4 => exact .lst2 (k h1 fun e => by cases e) (k h2 fun e => by cases e) (k h3 fun e => by cases e) h4
theorem big (n : Nat) (h : n ≤ 1000) : n ≤ sizeLine := Nat.le_of_lt (small1000 h)
theorem lit_len (x : Str) (h : x.length ≤ 9) (hc : Codes x) : (PyData.str x).shown.length ≤ 100 := by
  have := str_le hc
  omega
theorem codesOf {x : Str} (h : x.cps.toList.all (fun c => decide (c < 16 ^ 8)) = true) : Codes x := fun c hc => of_decide_eq_true (List.all_eq_true.mp h c hc)
theorem Thing.shows {Hs H : Hp} {w : Str} {x : V} (hw : Word w) (h : Thing Hs H w x) : ∃ d, Shows H x d := by
  have lw := word_len hw
  have l1 : (PyData.list [.str w]).shown.length ≤ 104 := by
    have := list_len (B := 100) (ds := [.str w]) fun d hd => by rw [List.mem_singleton.mp hd]; exact lw
    simpa using this
  cases h with
  | non => exact ⟨.none, .non, rfl, by decide +kernel, by decide +kernel⟩
  | bl b => exact ⟨.bool b, .bl b, rfl, by cases b <;> decide +kernel, by simp [PyData.depth]⟩
  | int h =>
    refine ⟨.int _, .int _, ?_, big _ (Nat.le_trans (int_len h) (by decide)), by simp [PyData.depth]⟩
    simp only [PyData.showable]
    refine decide_eq_true ?_
    exact Nat.lt_of_lt_of_le (PySem.Flt.log2_lt_of (by decide) h) (by decide)
  | str => exact ⟨.str w, .str w, rfl, big _ (Nat.le_trans lw (by decide)), by simp [PyData.depth]⟩
  | tup3 h => exact ⟨.tuple [.str "fill", .int 1, .int 2], .tup h (.cons (.str _) (.cons (.int _) (.cons (.int _) .nil))), by decide +kernel, by decide +kernel, by decide +kernel⟩
  | tup2 h1 h2 h3 =>
    refine ⟨.tuple [.str w, .list [.str w]], .tup h1 (.cons (.str _) (.cons (.lst h2 (.cons (.str _) .nil)) .nil)), rfl, ?_, by simp [PyData.depth, PyData.depthAll]⟩
    have := tuple_len (B := 104) (ds := [.str w, .list [.str w]]) fun d hd => by
      rcases List.mem_cons.mp hd with e | e
      · rw [e]; omega
      · rw [List.mem_singleton.mp e]; exact l1
    exact big _ (Nat.le_trans this (by simp))
  | dct h1 h2 h3 h4 =>
    refine ⟨.dict [(.str w, .list [.str w])], .dct h1 (.cons (.lst h2 (.cons (.str _) .nil)) .nil), rfl, ?_, by simp [PyData.depth, PyData.depthAll, PyData.depthKv]⟩
    exact big _ (Nat.le_trans (dict_len1 (B := 104) (by omega) l1) (by decide))
  | lst1 h1 h2 => exact ⟨.list [.str w], .lst h1 (.cons (.str _) .nil), rfl, big _ (Nat.le_trans l1 (by decide)), by simp [PyData.depth, PyData.depthAll]⟩
  | lst2 h1 h2 h3 h4 =>
    have l2 : (PyData.dict [(.str "out", .str w)]).shown.length ≤ 206 := dict_len1 (B := 100) (lit_len "out" (by decide +kernel) (codesOf (by decide +kernel))) lw
    refine ⟨.list [.list [.str w], .dict [(.str "out", .str w)]], .lst h1 (.cons (.lst h2 (.cons (.str _) .nil)) (.cons (.dct h3 (.cons (.str _) .nil)) .nil)), rfl, ?_, by simp [PyData.depth, PyData.depthAll, PyData.depthKv]⟩
    have := list_len (B := 206) (ds := [.list [.str w], .dict [(.str "out", .str w)]]) fun d hd => by
      rcases List.mem_cons.mp hd with e | e
      · rw [e]; omega
      · rw [List.mem_singleton.mp e]; exact l2
    exact big _ (Nat.le_trans this (by simp))
/-! ### the three changes -/
structure Kept (Hs H H' : Hp) : Prop where
  old : ∀ b o, Hs b ≠ none → H b = some o → H' b = some o
  ext : ∀ b φ, H b = some (.ext φ) → H' b = some (.ext φ)
  lst : ∀ b (xs : List V), xs.length = 28 → H b = some (.lst xs) → H' b = some (.lst xs)
theorem Kept.of_same {Hs H H' : Hp} (s : Same H H') : Kept Hs H H' := ⟨fun b o _ e => s b o e, fun b φ e => s b _ e, fun b xs _ e => s b _ e⟩
theorem Kept.lst_at {Hs H : Hp} {m : Addr} {xs : List V} {o : HO} (hm : H m = some (.lst xs)) (hs : Hs m = none) (h28 : xs.length ≠ 28) : Kept Hs H (upd H m o) where
  old := fun b u n e => by
    have ne : b ≠ m := fun z => n (by rw [z]; exact hs)
    rw [upd_ne ne]; exact e
  ext := fun b φ e => by
    rw [upd_ne (ne_of e hm fun z => by cases z)]; exact e
  lst := fun b ys hy e => by
    rw [upd_ne (ne_of e hm fun z => by injection z with z; rw [z] at hy; exact h28 hy)]; exact e
theorem Kept.dct_at {Hs H : Hp} {m : Addr} {kvs : List (Key × V)} {o : HO} (hm : H m = some (.dK kvs)) (hs : Hs m = none) : Kept Hs H (upd H m o) where
  old := fun b u n e => by
    have ne : b ≠ m := fun z => n (by rw [z]; exact hs)
    rw [upd_ne ne]; exact e
  ext := fun b φ e => by
    rw [upd_ne (ne_of e hm fun z => by cases z)]; exact e
  lst := fun b ys hy e => by
    rw [upd_ne (ne_of e hm fun z => by cases z)]; exact e
theorem Kept.trans {Hs H H1 H2 : Hp} (a : Kept Hs H H1) (b : Kept Hs H1 H2) : Kept Hs H H2 :=
  ⟨fun c o n e => b.old c o n (a.old c o n e), fun c φ e => b.ext c φ (a.ext c φ e), fun c xs h e => b.lst c xs h (a.lst c xs h e)⟩
theorem Kept.errs {K : PySem.W.Frag} {Hs H H' : Hp} {v : V} {es : List Addr} {js : List Nat} (k : Kept Hs H H') (e : Errs K H v es js) : Errs K H' v es js := by
  refine ⟨e.1, fun i a j h1 h2 => ?_⟩
  obtain ⟨dx, g1, g2⟩ := e.2 i a j h1 h2
  exact ⟨dx, k.ext _ _ g1, k.ext _ _ g2⟩
abbrev tIs4 (K : PySem.W.Frag) (T : String) : TE := tCB (rIsi K) (tCons (tVar 4) (tCons (tC (.ty T)) tNil))
abbrev tApp (K : PySem.W.Frag) (te : TE) : TS := tDrop (tBM K "list" rAppend te (tCons (tC (.str "later")) tNil))
abbrev tMut1 (K : PySem.W.Frag) : TS := tIfS (tB (tIs4 K "list")) (tApp K (tVar 4)) tNext
abbrev tMut2 (K : PySem.W.Frag) : TS := tIfS (tB (tIs4 K "dict")) (tSeq (tApp K (tDGet (tVar 4) (tVar 2))) (sDPut (tVar 4) (tC (.str "LATER")) (tC (.int 1)))) tNext
abbrev tMut3 (K : PySem.W.Frag) : TS := tIfS (tAnd (tB (tIs4 K "tuple")) (tTest (tOp rEq (tCB (rLn K) (tCons (tVar 4) tNil)) (tC (.int 2))))) (tApp K (tOp (rIxT K) (tVar 4) (tC (.int 1)))) tNext
theorem rd_isi {K : PySem.W.Frag} {H : Hp} {x : V} {T n : String} {b : Bool} {Q : VK} (ty : TyX K H x (.type T)) (hk : kitB T n = some b) (q : Q (.bl b) H) : rIsi K [x, .ty n] H Q := ⟨x, .ty n, _, _, b, rfl, .ty n, ty, kit_ty hk, q⟩
theorem if_is4 {K : PySem.W.Frag} {H : Hp} {x : V} {T n : String} {b : Bool} {D : Ends} {σ : St} {t u : TS} (h4 : σ[4]? = some (some x)) (ty : TyX K H x (.type T)) (hk : kitB T n = some b) (q : if b = true then t D σ H else u D σ H) :
    tIfS (tB (tIs4 K n)) t u D σ H := ⟨x, h4, x, .ty n, _, _, b, rfl, .ty n, ty, kit_ty hk, b, rfl, q⟩
theorem and_is4 {K : PySem.W.Frag} {H : Hp} {x : V} {T n : String} {b : Bool} {D : Ends} {σ : St} {t u : TS} {c : TT} (h4 : σ[4]? = some (some x)) (ty : TyX K H x (.type T)) (hk : kitB T n = some b)
    (q : if b = true then c σ H fun b H1 => if b = true then t D σ H1 else u D σ H1 else if false = true then t D σ H else u D σ H) :
    tIfS (tAnd (tB (tIs4 K n)) c) t u D σ H := ⟨x, h4, x, .ty n, _, _, b, rfl, .ty n, ty, kit_ty hk, b, rfl, q⟩
theorem rd_mut {K : PySem.W.Frag} {Hs H : Hp} {w : Str} {x : V} {D : Ends} {σ : St} {u : TS} (hw : Word w) (h : Thing Hs H w x) (h4 : σ[4]? = some (some x)) (h2 : σ[2]? = some (some (.str w)))
    (k : ∀ H' d, Shows H' x d → Kept Hs H H' → u D σ H') : tSeq (tMut1 K) (tSeq (tMut2 K) (tSeq (tMut3 K) u)) D σ H := by
  have lw := word_len hw
  have ll := later_len
  have no : ∀ {T : String}, (TyX K H x (.type T)) → kitB T "list" = some false → kitB T "dict" = some false → kitB T "tuple" = some false → tSeq (tMut1 K) (tSeq (tMut2 K) (tSeq (tMut3 K) u)) D σ H := fun {T} ty b1 b2 b3 => by
    obtain ⟨d, sh⟩ := h.shows hw
    refine seq_of (if_is4 h4 ty b1 (iteF ?_))
    show tSeq (tMut2 K) (tSeq (tMut3 K) u) D σ H
    refine seq_of (if_is4 h4 ty b2 (iteF ?_))
    show tSeq (tMut3 K) u D σ H
    exact seq_of (and_is4 h4 ty b3 (iteF (iteF (k H d sh (Kept.of_same (Same.refl H))))))
  have l2 : (PyData.list [.str w, later]).shown.length ≤ 206 := by
    have := list_len (B := 100) (ds := [.str w, later]) fun d hd => by
      rcases List.mem_cons.mp hd with e | e
      · rw [e]; exact lw
      · rw [List.mem_singleton.mp e]; exact ll
    simpa using this
  -- a list: one more
  have lst : ∀ {a : Addr} {xs : List V}, x = .ref a → H a = some (.lst xs) → Hs a = none → xs.length ≤ 2 → (∃ d, Shows (upd H a (.lst (xs ++ [.str "later"]))) x d) → tSeq (tMut1 K) (tSeq (tMut2 K) (tSeq (tMut3 K) u)) D σ H := by
    intro a xs ex ha hs hl sh
    subst ex
    obtain ⟨d, sh⟩ := sh
    have ty : TyX K H (.ref a) (.type "list") := .base (.lst ha)
    have ty2 : TyX K (upd H a (.lst (xs ++ [.str "later"]))) (.ref a) (.type "list") := .base (.lst upd_same)
    refine seq_of (if_is4 h4 ty (b := true) (by decide +kernel) (iteT ?_))
    refine ⟨_, h4, .inl ⟨rfl, _, SqL.of ha⟩, a, xs, _, rfl, rfl, ha, small1000 (by omega), ?_⟩
    show tSeq (tMut2 K) (tSeq (tMut3 K) u) D σ _
    refine seq_of (if_is4 h4 ty2 (b := false) (by decide +kernel) (iteF ?_))
    show tSeq (tMut3 K) u D σ _
    exact seq_of (and_is4 h4 ty2 (b := false) (by decide +kernel) (iteF (iteF (k _ d sh (Kept.lst_at ha hs (by omega))))))
  cases id h with
  | non => exact no (.base .non) (by decide +kernel) (by decide +kernel) (by decide +kernel)
  | bl b => exact no (.base (.bl b)) (by decide +kernel) (by decide +kernel) (by decide +kernel)
  | int _ => exact no (.base (.int _)) (by decide +kernel) (by decide +kernel) (by decide +kernel)
  | str => exact no (.base (.str _)) (by decide +kernel) (by decide +kernel) (by decide +kernel)
  | @tup3 t ht =>
    have ty : TyX K H (.ref t) (.type "tuple") := .base (.tup ht)
    obtain ⟨d, sh⟩ := h.shows hw
    refine seq_of (if_is4 h4 ty (b := false) (by decide +kernel) (iteF ?_))
    show tSeq (tMut2 K) (tSeq (tMut3 K) u) D σ _
    refine seq_of (if_is4 h4 ty (b := false) (by decide +kernel) (iteF ?_))
    show tSeq (tMut3 K) u D σ _
    refine seq_of (and_is4 h4 ty (b := true) (by decide +kernel) (iteT ?_))
    refine ⟨_, h4, t, _, rfl, .inr (SqT.of ht), rfl, _, rfl, ?_⟩
    exact iteF (k H d sh (Kept.of_same (Same.refl H)))
  | @tup2 t q ht hq hs =>
    have ty : TyX K H (.ref t) (.type "tuple") := .base (.tup ht)
    refine seq_of (if_is4 h4 ty (b := false) (by decide +kernel) (iteF ?_))
    show tSeq (tMut2 K) (tSeq (tMut3 K) u) D σ _
    refine seq_of (if_is4 h4 ty (b := false) (by decide +kernel) (iteF ?_))
    show tSeq (tMut3 K) u D σ _
    refine seq_of (and_is4 h4 ty (b := true) (by decide +kernel) (iteT ?_))
    refine ⟨_, h4, t, _, rfl, .inr (SqT.of ht), rfl, _, rfl, ?_⟩
    refine iteT ?_
    refine ⟨_, h4, t, _, _, .ref q, rfl, rfl, SqT.of ht, rfl, .inl ⟨rfl, _, SqL.of hq⟩, q, _, _, rfl, rfl, hq, small1000 (by simp), ?_⟩
    have ne : t ≠ q := ne_of ht hq fun e => by cases e
    refine k _ (.tuple [.str w, .list [.str w, later]]) ⟨.tup (by rw [upd_ne ne]; exact ht) (.cons (.str _) (.cons (.lst upd_same (.cons (.str _) (.cons (.str _) .nil))) .nil)), rfl, ?_, by simp [PyData.depth, PyData.depthAll, later]⟩ (Kept.lst_at hq hs (by simp))
    have := tuple_len (B := 206) (ds := [.str w, .list [.str w, later]]) fun d hd => by
      rcases List.mem_cons.mp hd with e | e
      · rw [e]; omega
      · rw [List.mem_singleton.mp e]; exact l2
    exact big _ (Nat.le_trans this (by simp))
  | @dct a q ha hq hsa hsq =>
    have ty : TyX K H (.ref a) (.type "dict") := .base (.dK ha)
    have ne : a ≠ q := ne_of ha hq fun e => by cases e
    have ha1 : ∀ o, upd H q o a = some (.dK [(.inr w, .ref q)]) := fun o => by rw [upd_ne ne]; exact ha
    have wl : (Sum.inr w : Key) ≠ Sum.inr ("LATER" : Str) := fun e => by
      have e1 : w = ("LATER" : Str) := Sum.inr.inj e
      have : 76 ∈ w.cps.toList := by rw [e1]; decide +kernel
      have := (hw.2 76 this).1
      omega
    refine seq_of (if_is4 h4 ty (b := false) (by decide +kernel) (iteF ?_))
    show tSeq (tMut2 K) (tSeq (tMut3 K) u) D σ _
    refine seq_of (if_is4 h4 ty (b := true) (by decide +kernel) (iteT ?_))
    refine ⟨_, h4, _, h2, a, .ref q, rfl, ?_, .inl ⟨rfl, _, SqL.of hq⟩, q, _, _, rfl, rfl, hq, small1000 (by simp), ?_⟩
    · have g := DGet.k (k := Sum.inr w) ha
      rw [valV_pos rfl] at g
      exact g
    refine ⟨_, h4, a, _, rfl, DPut.k (k := Sum.inr "LATER") (ha1 _) (small1000 (by simp)), ?_⟩
    have pk : putK [((.inr w : Key), V.ref q)] (Sum.inr "LATER") (V.int 1) = [(.inr w, .ref q), (.inr "LATER", .int 1)] := by
      unfold putK
      rw [if_neg (by simp [wl])]
      rfl
    rw [pk]
    have hA : (upd (upd H q (.lst [.str w, .str "later"])) a (.dK [(.inr w, .ref q), (.inr "LATER", .int 1)])) a = some (.dK [(.inr w, .ref q), (.inr "LATER", .int 1)]) := upd_same
    have hQ : (upd (upd H q (.lst [.str w, .str "later"])) a (.dK [(.inr w, .ref q), (.inr "LATER", .int 1)])) q = some (.lst [.str w, .str "later"]) := by rw [upd_ne (Ne.symm ne), upd_same]
    have ty3 : TyX K (upd (upd H q (.lst [.str w, .str "later"])) a (.dK [(.inr w, .ref q), (.inr "LATER", .int 1)])) (.ref a) (.type "dict") := .base (.dK hA)
    show tSeq (tMut3 K) u D σ _
    refine seq_of (and_is4 h4 ty3 (b := false) (by decide +kernel) (iteF (iteF ?_)))
    refine k _ (.dict [(.str w, .list [.str w, later]), (.str "LATER", .int 1)]) ⟨.dct hA (.cons (.lst hQ (.cons (.str _) (.cons (.str _) .nil))) (.cons (.int _) .nil)), by simp [PyData.showable, PyData.showableKv, PyData.showableAll, later]; decide +kernel, ?_, by simp [PyData.depth, PyData.depthAll, PyData.depthKv, later]⟩
      ((Kept.lst_at hq hsq (by simp)).trans (Kept.dct_at (ha1 _) hsa))
    exact big _ (Nat.le_trans (dict_len2 (B := 206) (by omega) l2 (Nat.le_trans (lit_len "LATER" (by decide +kernel) (codesOf (by decide +kernel))) (by decide)) (by decide +kernel)) (by decide))
  | @lst1 a ha hs =>
    refine lst rfl ha hs (by simp) ⟨.list [.str w, later], .lst upd_same (.cons (.str _) (.cons (.str _) .nil)), rfl, big _ (Nat.le_trans l2 (by decide)), by simp [PyData.depth, PyData.depthAll, later]⟩
  | @lst2 a q b ha hq hb hs =>
    have n1 : q ≠ a := ne_of hq ha fun e => by cases e
    have n2 : b ≠ a := ne_of hb ha fun e => by cases e
    have l3 : (PyData.dict [(.str "out", .str w)]).shown.length ≤ 206 := dict_len1 (B := 100) (lit_len "out" (by decide +kernel) (codesOf (by decide +kernel))) lw
    have l1 : (PyData.list [.str w]).shown.length ≤ 206 := by
      have := list_len (B := 100) (ds := [.str w]) fun d hd => by rw [List.mem_singleton.mp hd]; exact lw
      simp at this
      omega
    refine lst rfl ha hs (by simp) ⟨.list [.list [.str w], .dict [(.str "out", .str w)], later], .lst upd_same (.cons (.lst ((upd_ne n1).trans hq) (.cons (.str _) .nil)) (.cons (.dct ((upd_ne n2).trans hb) (.cons (.str _) .nil)) (.cons (.str _) .nil))), rfl, ?_, by simp [PyData.depth, PyData.depthAll, PyData.depthKv, later]⟩
    have := list_len (B := 206) (ds := [.list [.str w], .dict [(.str "out", .str w)], later]) fun d hd => by
      rcases List.mem_cons.mp hd with e | e
      · rw [e]; exact l1
      · rcases List.mem_cons.mp e with e | e
        · rw [e]; exact l3
        · rw [List.mem_singleton.mp e]; omega
    exact big _ (Nat.le_trans this (by simp))
end L2.K01
set_option Elab.async false
set_option linter.all false
set_option maxRecDepth 100000
set_option maxHeartbeats 4000000
namespace L2.K01
open PySem PySem.Spec PyProof.Rows L2.EV
/-! ### all that are asked to be right -/
abbrev tRt (K : PySem.W.Frag) (t u : TE) : TE := tCall (spRight K) [] E0 (tCons t (tCons u tNil))
abbrev tBoth (K : PySem.W.Frag) (a b c d : TE) : TS := tIfS (tOr (tNot (tB (tRt K a b))) (tNot (tB (tRt K c d)))) (tRet (tC (.bl false))) tNext
theorem rd_last {K : PySem.W.Frag} {H : Hp} {x : V} {d : PyData} {l6 l7 : Addr} {e6 e7 : List Addr} {D : Ends} {σ : St} (h4 : σ[4]? = some (some x)) (h6 : σ[6]? = some (some (.ref l6))) (h7 : σ[7]? = some (some (.ref l7)))
    (sh : Shows H x d) (g6 : H l6 = some (.lst (e6.map V.ref))) (r6 : Errs K H x e6 (List.range 28)) (g7 : H l7 = some (.lst (e7.map V.ref))) (r7 : Errs K H x e7 (List.range 28)) (k : ∀ H', Same H H' → D.nx σ H') :
    tBoth K (tVar 6) (tCB rRepr (tCons (tVar 4) tNil)) (tVar 7) (tCB rRepr (tCons (tVar 4) tNil)) D σ H := by
  refine ⟨_, h6, _, h4, x, d, rfl, sh.1, sh.2.1, sh.2.2.1, sh.2.2.2, l6, e6, x, d, rfl, g6, r6, sh, fun H1 s1 => ⟨true, rfl, iteF ?_⟩⟩
  have sh1 := sh.same s1
  refine ⟨_, h7, _, h4, x, d, rfl, sh1.1, sh1.2.1, sh1.2.2.1, sh1.2.2.2, l7, e7, x, d, rfl, s1 _ _ g7, r7.same s1, sh1, fun H2 s2 => ⟨true, rfl, iteF ?_⟩⟩
  exact k H2 (s1.trans s2)
theorem rd_mid {K : PySem.W.Frag} {H : Hp} {x : V} {d : PyData} {l6 l7 : Addr} {e6 e7 : List Addr} {D : Ends} {σ : St} (h5 : σ[5]? = some (some (.str d.shown))) (h6 : σ[6]? = some (some (.ref l6))) (h7 : σ[7]? = some (some (.ref l7)))
    (sh : Shows H x d) (g6 : H l6 = some (.lst (e6.map V.ref))) (r6 : Errs K H x e6 (List.range 28)) (g7 : H l7 = some (.lst (e7.map V.ref))) (r7 : Errs K H x e7 (List.range 28)) (k : ∀ H', Same H H' → D.nx σ H') :
    tBoth K (tVar 6) (tVar 5) (tVar 7) (tVar 5) D σ H := by
  refine ⟨_, h6, _, h5, l6, e6, x, d, rfl, g6, r6, sh, fun H1 s1 => ⟨true, rfl, iteF ?_⟩⟩
  refine ⟨_, h7, _, h5, l7, e7, x, d, rfl, s1 _ _ g7, r7.same s1, sh.same s1, fun H2 s2 => ⟨true, rfl, iteF ?_⟩⟩
  exact k H2 (s1.trans s2)
theorem rd_bare {K : PySem.W.Frag} {H : Hp} {t l8 : Addr} {w : Str} {e8 : List Addr} {D : Ends} {σ : St} (hw : Word w) (h2 : σ[2]? = some (some (.str w))) (h8 : σ[8]? = some (some (.ref l8)))
    (ht : H t = some (.tup [.str "later", .str w])) (g8 : H l8 = some (.lst (e8.map V.ref))) (r8 : Errs K H (.ref t) e8 (List.range 28)) (k : ∀ H', Same H H' → D.nx σ H') :
    tBoth K (tCall (spBare K) [] E0 tNil) (tC (.str "None")) (tVar 8) (tCB rRepr (tCons (tTup (tCons (tC (.str "later")) (tCons (tVar 2) tNil))) tNil)) D σ H := by
  have sz : (PyData.tuple [later, .str w]).shown.length ≤ sizeLine := by
    have := tuple_len (B := 100) (ds := [later, .str w]) fun d hd => by
      rcases List.mem_cons.mp hd with e | e
      · rw [e]; exact later_len
      · rw [List.mem_singleton.mp e]; exact word_len hw
    exact big _ (Nat.le_trans this (by simp))
  have dep : (PyData.tuple [later, .str w]).depth ≤ 60 := by simp [PyData.depth, PyData.depthAll, later]
  refine ⟨rfl, fun l es H1 er hl s1 _ => ⟨l, es, .non, .none, rfl, hl, er, ⟨.non, rfl, by decide +kernel, by decide +kernel⟩, fun H2 s2 => ⟨true, rfl, iteF ?_⟩⟩⟩
  refine ⟨_, h8, _, h2, (by show 2 ≤ sizeLine; decide), fun q hq => ?_⟩
  have s3 : Same H2 (upd H2 q (.tup [.str "later", .str w])) := same_upd hq
  have s13 := s1.trans (s2.trans s3)
  refine ⟨.ref q, .tuple [later, .str w], rfl, .tup upd_same (.cons (.str _) (.cons (.str _) .nil)), rfl, sz, dep, ?_⟩
  refine ⟨l8, e8, .ref t, .tuple [later, .str w], rfl, s13 _ _ g8, r8.same s13, ⟨.tup (s13 _ _ ht) (.cons (.str _) (.cons (.str _) .nil)), rfl, sz, dep⟩, fun H4 s4 => ⟨true, rfl, iteF ?_⟩⟩
  exact k H4 (s13.trans s4)
/-! ### the drawing of a thing -/
abbrev tPlain (K : PySem.W.Frag) : TE := tLst (tCons (tC .non) (tCons (tC (.bl true)) (tCons (tC (.bl false)) (tCons (tC (.int 0)) (tCons (tVar 2) (tCons (tUn (rU fun i => .int (-i)) (tOp (rIxL K) (tVar 1) (tC (.int 1))))
  (tCons (tTup (tCons (tC (.str "fill")) (tCons (tC (.int 1)) (tCons (tC (.int 2)) tNil)))) (tCons (tTup (tCons (tVar 2) (tCons (tLst (tCons (tVar 2) tNil)) tNil))) (tCons (tDisp [(tVar 2, tLst (tCons (tVar 2) tNil))]) tNil)))))))))
abbrev tDrawn : TE := tCall spOne [] E0 (tCons (tVar 1) (tCons (tOp rCat (tVar 3) (tLst (tCons (tLst (tCons (tVar 2) tNil)) (tCons (tLst (tCons (tLst (tCons (tVar 2) tNil)) (tCons (tDisp [(tC (.str "out"), tVar 2)]) tNil))) tNil)))) tNil))
theorem rd_draw {K : PySem.W.Frag} {H : Hp} {p : Addr} {w : Str} {n : Nat} {D : Ends} {σ : St} {u : TS} (h1 : σ[1]? = some (some (.ref p))) (h2 : σ[2]? = some (some (.str w))) (hl : 3 < σ.length) (hp : PurseAt H p n) (hn : n < 2 ^ 50)
    (k : ∀ (x : V) (l : Addr) (H' : Hp), Thing H H' w x → (∀ b o, b ≠ p → H b = some o → H' b = some o) → PurseAt H' p (n + 1) → u D ((σ.set 3 (some (.ref l))).set 4 (some x)) H') :
    tSeq (tAsg (tPlain K) (gName 3)) (tSeq (tAsg tDrawn (gName 4)) u) D σ H := by
  obtain ⟨c, z, t, a, hpu, hz, ht, ha⟩ := id hp
  have one : ∀ x : V, [x].length ≤ sizeLine := fun x => by show 1 ≤ sizeLine; decide
  refine ⟨_, h2, _, h1, p, _, _, _, rfl, rfl, SqL.of hpu, rfl, z, rfl, (by show 3 ≤ sizeLine; decide), fun t3 ht3 => ?_⟩
  have sA := same_upd (o := .tup [.str "fill", .int 1, .int 2]) ht3
  have fA : upd H t3 (.tup [.str "fill", .int 1, .int 2]) t3 = some (.tup [.str "fill", .int 1, .int 2]) := upd_same
  generalize upd H t3 (.tup [.str "fill", .int 1, .int 2]) = HA at sA fA
  refine ⟨_, h2, _, h2, one _, fun q0 hq0 => ?_⟩
  have sB := same_upd (o := .lst [.str w]) hq0
  have fB : upd HA q0 (.lst [.str w]) q0 = some (.lst [.str w]) := upd_same
  generalize upd HA q0 (.lst [.str w]) = HB at sB fB
  refine ⟨(by show 2 ≤ sizeLine; decide), fun t2 ht2 => ?_⟩
  have sC := same_upd (o := .tup [.str w, .ref q0]) ht2
  have fC : upd HB t2 (.tup [.str w, .ref q0]) t2 = some (.tup [.str w, .ref q0]) := upd_same
  generalize upd HB t2 (.tup [.str w, .ref q0]) = HC at sC fC
  intro dd hdd
  refine ⟨_, h2, _, h2, one _, fun q1 hq1 => ?_⟩
  have nd : dd ≠ q1 := by
    intro e
    rw [← e, upd_same] at hq1
    cases hq1
  rw [upd_ne (Ne.symm nd)] at hq1
  refine ⟨by rw [upd_ne nd, upd_same], [(.inr w, .ref q1)], rfl, by simp, ?_⟩
  have em : mergeK [] [((.inr w : Key), V.ref q1)] = [(.inr w, .ref q1)] := rfl
  rw [em]
  have sD : Same HC (upd (upd (upd HC dd (.dK [])) q1 (.lst [.str w])) dd (.dK [(.inr w, .ref q1)])) := fun b o e => by
    rw [upd_ne (ne_of_none e hdd), upd_ne (ne_of_none e hq1), upd_ne (ne_of_none e hdd)]
    exact e
  have fD : (upd (upd (upd HC dd (.dK [])) q1 (.lst [.str w])) dd (.dK [(.inr w, .ref q1)])) dd = some (.dK [(.inr w, .ref q1)]) := upd_same
  have fD1 : (upd (upd (upd HC dd (.dK [])) q1 (.lst [.str w])) dd (.dK [(.inr w, .ref q1)])) q1 = some (.lst [.str w]) := by rw [upd_ne (Ne.symm nd), upd_same]
  generalize (upd (upd (upd HC dd (.dK [])) q1 (.lst [.str w])) dd (.dK [(.inr w, .ref q1)])) = HD at sD fD fD1
  refine ⟨(by show 9 ≤ sizeLine; decide), fun lp hlp => ?_⟩
  have sE := same_upd (o := .lst [.non, .bl true, .bl false, .int 0, .str w, .int (-z), .ref t3, .ref t2, .ref dd]) hlp
  have fE : upd HD lp (.lst [.non, .bl true, .bl false, .int 0, .str w, .int (-z), .ref t3, .ref t2, .ref dd]) lp = some (.lst [.non, .bl true, .bl false, .int 0, .str w, .int (-z), .ref t3, .ref t2, .ref dd]) := upd_same
  show (tSeq (tAsg tDrawn (gName 4)) u) D (σ.set 3 (some (.ref lp))) (upd HD lp (.lst [.non, .bl true, .bl false, .int 0, .str w, .int (-z), .ref t3, .ref t2, .ref dd]))
  generalize upd HD lp (.lst [.non, .bl true, .bl false, .int 0, .str w, .int (-z), .ref t3, .ref t2, .ref dd]) = HE at sE fE
  have s0E : Same H HE := sA.trans (sB.trans (sC.trans (sD.trans sE)))
  have g1 : (σ.set 3 (some (.ref lp)))[1]? = some (some (.ref p)) := by rw [List.getElem?_set_ne (by decide)]; exact h1
  have g2 : (σ.set 3 (some (.ref lp)))[2]? = some (some (.str w)) := by rw [List.getElem?_set_ne (by decide)]; exact h2
  have g3 : (σ.set 3 (some (.ref lp)))[3]? = some (some (.ref lp)) := List.getElem?_set_self hl
  refine ⟨_, g1, _, g3, _, g2, one _, fun l1 hl1 => ?_⟩
  have sF := same_upd (o := .lst [.str w]) hl1
  have fF : upd HE l1 (.lst [.str w]) l1 = some (.lst [.str w]) := upd_same
  generalize upd HE l1 (.lst [.str w]) = HF at sF fF
  refine ⟨_, g2, one _, fun q2 hq2 => ?_⟩
  have sG := same_upd (o := .lst [.str w]) hq2
  have fG : upd HF q2 (.lst [.str w]) q2 = some (.lst [.str w]) := upd_same
  generalize upd HF q2 (.lst [.str w]) = HG at sG fG
  intro d2 hd2
  refine ⟨_, g2, upd_same, [(.inr "out", .str w)], rfl, by simp, ?_⟩
  have em2 : mergeK [] [((.inr "out" : Key), V.str w)] = [(.inr "out", .str w)] := rfl
  rw [em2, upd_upd]
  have sI := same_upd (o := .dK [(.inr "out", .str w)]) hd2
  have fI : upd HG d2 (.dK [(.inr "out", .str w)]) d2 = some (.dK [(.inr "out", .str w)]) := upd_same
  generalize upd HG d2 (.dK [(.inr "out", .str w)]) = HI at sI fI
  refine ⟨(by show 2 ≤ sizeLine; decide), fun l3 hl3 => ?_⟩
  have sJ := same_upd (o := .lst [.ref q2, .ref d2]) hl3
  have fJ : upd HI l3 (.lst [.ref q2, .ref d2]) l3 = some (.lst [.ref q2, .ref d2]) := upd_same
  generalize upd HI l3 (.lst [.ref q2, .ref d2]) = HJ at sJ fJ
  refine ⟨(by show 2 ≤ sizeLine; decide), fun lo hlo => ?_⟩
  have sK := same_upd (o := .lst [.ref l1, .ref l3]) hlo
  have sEJ : Same HE HJ := sF.trans (sG.trans (sI.trans sJ))
  refine ⟨lp, lo, _, _, rfl, rfl, sK _ _ (sEJ _ _ fE), upd_same, (by show 11 ≤ sizeLine; decide), fun lx hlx => ?_⟩
  have sL := same_upd (o := .lst ([.non, .bl true, .bl false, .int 0, .str w, .int (-z), .ref t3, .ref t2, .ref dd] ++ [.ref l1, .ref l3])) hlx
  have sEL := sEJ.trans (sK.trans sL)
  have s0L : Same H _ := s0E.trans sEL
  have nx : lx ≠ p := by
    intro e
    have := sK.free hlx
    rw [e] at this
    rw [(s0E.trans sEJ) _ _ hpu] at this
    cases this
  refine ⟨p, lx, _, n, rfl, upd_same, nx, ⟨by simp, by show (11 : Nat) < 2 ^ 200; decide⟩, hp.same s0L, hn, fun i x H' hx p' bt => ?_⟩
  have th : Thing H (upd (upd HJ lo (.lst [.ref l1, .ref l3])) lx (.lst ([.non, .bl true, .bl false, .int 0, .str w, .int (-z), .ref t3, .ref t2, .ref dd] ++ [.ref l1, .ref l3]))) w x := by
    have eqx : ∀ y : V, some y = some x → Thing H (upd (upd HJ lo (.lst [.ref l1, .ref l3])) lx (.lst ([.non, .bl true, .bl false, .int 0, .str w, .int (-z), .ref t3, .ref t2, .ref dd] ++ [.ref l1, .ref l3]))) w y → Thing H (upd (upd HJ lo (.lst [.ref l1, .ref l3])) lx (.lst ([.non, .bl true, .bl false, .int 0, .str w, .int (-z), .ref t3, .ref t2, .ref dd] ++ [.ref l1, .ref l3]))) w x := fun y e h => by
      cases e
      exact h
    have sCL := sD.trans (sE.trans sEL)
    have sBL := sC.trans sCL
    have sIL := sJ.trans (sK.trans sL)
    match i, hx with
    | 0, hx => exact eqx _ hx .non
    | 1, hx => exact eqx _ hx (.bl true)
    | 2, hx => exact eqx _ hx (.bl false)
    | 3, hx => exact eqx _ hx (.int (by decide))
    | 4, hx => exact eqx _ hx .str
    | 5, hx => exact eqx _ hx (.int (by omega))
    | 6, hx => exact eqx _ hx (.tup3 ((sB.trans sBL) _ _ fA))
    | 7, hx => exact eqx _ hx (.tup2 (sCL _ _ fC) (sBL _ _ fB) (sA.free hq0))
    | 8, hx => exact eqx _ hx (.dct ((sE.trans sEL) _ _ fD) ((sE.trans sEL) _ _ fD1) ((sA.trans (sB.trans sC)).free hdd) ((sA.trans (sB.trans sC)).free hq1))
    | 9, hx => exact eqx _ hx (.lst1 ((sG.trans (sI.trans sIL)) _ _ fF) (s0E.free hl1))
    | 10, hx => exact eqx _ hx (.lst2 ((sK.trans sL) _ _ fJ) ((sI.trans sIL) _ _ fG) (sIL _ _ fI) ((s0E.trans (sF.trans (sG.trans sI))).free hl3))
    | m + 11, hx => cases hx
  refine k x lp H' (th.but (hp.same s0L) bt) (fun b o nb e => ?_) p'
  rw [bt b nb]
  exact s0L _ _ e
end L2.K01
set_option Elab.async false
set_option linter.all false
set_option maxRecDepth 100000
set_option maxHeartbeats 4000000
namespace L2.K01
open PySem PySem.Spec PyProof.Rows L2.EV
abbrev tCalls (K : PySem.W.Frag) : TS := tPar3 6 7 8 (tCons (tCall (spAll K) [] E0 (tCons (tVar 4) tNil)) (tCons (tCall (spAll K) [] E0 (tCons (tVar 4) tNil)) (tCons (tCall (spAll K) [] E0 (tCons (tTup (tCons (tC (.str "later")) (tCons (tVar 2) tNil))) tNil)) tNil)))
abbrev tBare (K : PySem.W.Frag) : TS := tBoth K (tCall (spBare K) [] E0 tNil) (tC (.str "None")) (tVar 8) (tCB rRepr (tCons (tTup (tCons (tC (.str "later")) (tCons (tVar 2) tNil))) tNil))
abbrev tMid (K : PySem.W.Frag) : TS := tBoth K (tVar 6) (tVar 5) (tVar 7) (tVar 5)
abbrev tLast (K : PySem.W.Frag) : TS := tBoth K (tVar 6) (tCB rRepr (tCons (tVar 4) tNil)) (tVar 7) (tCB rRepr (tCons (tVar 4) tNil))
abbrev tTurn (K : PySem.W.Frag) : TS := tSeq (tAsg (tCall spWord [] E0 (tCons (tVar 1) tNil)) (gName 2)) (tSeq (tAsg (tPlain K) (gName 3)) (tSeq (tAsg tDrawn (gName 4)) (tSeq (tAsg (tCB rRepr (tCons (tVar 4) tNil)) (gName 5))
  (tSeq (tCalls K) (tSeq (tBare K) (tSeq (tMid K) (tSeq (tMut1 K) (tSeq (tMut2 K) (tSeq (tMut3 K) (tLast K))))))))))
theorem rd_turn {K : PySem.W.Frag} {H : Hp} {a p : Addr} {n : Nat} {D : Ends} {v2 v3 v4 v5 v6 v7 v8 : Option V} (hp : PurseAt H p n) (hn : n < 2 ^ 40)
    (k : ∀ (w2 w3 w4 w5 w6 w7 w8 : Option V) (H' : Hp), (∀ b o, b ≠ p → H b = some o → H' b = some o) → PurseAt H' p (n + 11) → D.nx [some (.ref a), some (.ref p), w2, w3, w4, w5, w6, w7, w8, none, none] H') :
    tTurn K D [some (.ref a), some (.ref p), v2, v3, v4, v5, v6, v7, v8, none, none] H := by
  refine ⟨_, rfl, p, n, rfl, hp, hn, fun w H1 hw hp1 k1 => ?_⟩
  show tSeq (tAsg (tPlain K) (gName 3)) (tSeq (tAsg tDrawn (gName 4)) (tSeq (tAsg (tCB rRepr (tCons (tVar 4) tNil)) (gName 5)) (tSeq (tCalls K) (tSeq (tBare K) (tSeq (tMid K) (tSeq (tMut1 K) (tSeq (tMut2 K) (tSeq (tMut3 K) (tLast K)))))))))
    D [some (.ref a), some (.ref p), some (.str w), v3, v4, v5, v6, v7, v8, none, none] H1
  refine rd_draw (p := p) (w := w) (n := n + 10) rfl rfl (by show 3 < 11; decide) hp1 (by omega) fun x l H2 hx k2 hp2 => ?_
  show tSeq (tAsg (tCB rRepr (tCons (tVar 4) tNil)) (gName 5)) (tSeq (tCalls K) (tSeq (tBare K) (tSeq (tMid K) (tSeq (tMut1 K) (tSeq (tMut2 K) (tSeq (tMut3 K) (tLast K)))))))
    D [some (.ref a), some (.ref p), some (.str w), some (.ref l), some x, v5, v6, v7, v8, none, none] H2
  obtain ⟨d, sh⟩ := hx.shows hw
  refine ⟨_, rfl, x, d, rfl, sh.1, sh.2.1, sh.2.2.1, sh.2.2.2, ?_⟩
  show tSeq (tCalls K) (tSeq (tBare K) (tSeq (tMid K) (tSeq (tMut1 K) (tSeq (tMut2 K) (tSeq (tMut3 K) (tLast K))))))
    D [some (.ref a), some (.ref p), some (.str w), some (.ref l), some x, some (.str d.shown), v6, v7, v8, none, none] H2
  refine ⟨_, rfl, x, rfl, fun l6 e6 H3 r6 g6 s3 f6 => ?_⟩
  refine ⟨_, rfl, x, rfl, fun l7 e7 H4 r7 g7 s4 f7 => ?_⟩
  refine ⟨_, rfl, (by show 2 ≤ sizeLine; decide), fun t ht => ?_⟩
  have s5 := same_upd (o := .tup [.str "later", .str w]) ht
  have g5 : upd H4 t (.tup [.str "later", .str w]) t = some (.tup [.str "later", .str w]) := upd_same
  generalize upd H4 t (.tup [.str "later", .str w]) = H5 at s5 g5
  refine ⟨.ref t, rfl, fun l8 e8 H6 r8 g8 s6 f8 => ⟨_, _, _, rfl, ?_⟩⟩
  show tSeq (tBare K) (tSeq (tMid K) (tSeq (tMut1 K) (tSeq (tMut2 K) (tSeq (tMut3 K) (tLast K)))))
    D [some (.ref a), some (.ref p), some (.str w), some (.ref l), some x, some (.str d.shown), some (.ref l6), some (.ref l7), some (.ref l8), none, none] H6
  have s26 : Same H2 H6 := s3.trans (s4.trans (s5.trans s6))
  refine seq_of (rd_bare (w := w) (t := t) (l8 := l8) (e8 := e8) hw rfl rfl (s6 _ _ g5) g8 r8 fun H7 s7 => ?_)
  show tSeq (tMid K) (tSeq (tMut1 K) (tSeq (tMut2 K) (tSeq (tMut3 K) (tLast K)))) D [some (.ref a), some (.ref p), some (.str w), some (.ref l), some x, some (.str d.shown), some (.ref l6), some (.ref l7), some (.ref l8), none, none] H7
  have s37 : Same H3 H7 := s4.trans (s5.trans (s6.trans s7))
  have s47 : Same H4 H7 := s5.trans (s6.trans s7)
  refine seq_of (rd_mid (x := x) (d := d) (l6 := l6) (l7 := l7) (e6 := e6) (e7 := e7) rfl rfl rfl (sh.same (s26.trans s7)) (s37 _ _ g6) (r6.same s37) (s47 _ _ g7) (r7.same s47) fun H8 s8 => ?_)
  show tSeq (tMut1 K) (tSeq (tMut2 K) (tSeq (tMut3 K) (tLast K))) D [some (.ref a), some (.ref p), some (.str w), some (.ref l), some x, some (.str d.shown), some (.ref l6), some (.ref l7), some (.ref l8), none, none] H8
  have s28 := s26.trans (s7.trans s8)
  have s38 := s37.trans s8
  have s48 := s47.trans s8
  refine rd_mut (Hs := H1) (w := w) (x := x) hw (hx.same s28) rfl rfl fun H9 d9 sh9 kp => ?_
  have len6 : (e6.map V.ref).length = 28 := by rw [List.length_map, r6.1]; rfl
  have len7 : (e7.map V.ref).length = 28 := by rw [List.length_map, r7.1]; rfl
  refine rd_last (x := x) (d := d9) (l6 := l6) (l7 := l7) (e6 := e6) (e7 := e7) rfl rfl rfl sh9 (kp.lst _ _ len6 (s38 _ _ g6)) (kp.errs (r6.same s38)) (kp.lst _ _ len7 (s48 _ _ g7)) (kp.errs (r7.same s48)) fun H10 s10 => ?_
  refine k _ _ _ _ _ _ _ H10 (fun b o nb e => ?_) ?_
  · have e1 := k1 b o nb e
    exact s10 _ _ (kp.old b o (by rw [e1]; exact fun z => by cases z) (s28 _ _ (k2 b o nb e1)))
  · obtain ⟨c, z, t', q, hpu, hz, ht', hq⟩ := hp2
    obtain ⟨c0, z0, t0, q0, hpu0, _⟩ := hp1
    exact ⟨c, z, t', q, s10 _ _ (kp.old p _ (by rw [hpu0]; exact fun z => by cases z) (s28 _ _ hpu)), hz, ht', hq⟩
end L2.K01
set_option Elab.async false
set_option linter.all false
set_option maxRecDepth 100000
set_option maxHeartbeats 4000000
namespace L2.K01
open PySem PySem.Spec PyProof.Rows L2.EV
abbrev sLaw : Stmt := top 45
abbrev nLaw : List Str := ["_law_script", "_law_purse_here", "_law_word_here", "_law_plain", "_law_thing", "_law_noted", "_law_some", "_law_called_here", "_law_later", "_law_rest", "_law_error"]
theorem scLaw : FnScope nLaw ["_law_script"] (defScope sLaw) := ⟨rfl, rfl, rfl, by decide +kernel, rfl, by decide +kernel, by decide +kernel⟩
def spLaw (K : PySem.W.Frag) : Sp := fun vs H Q _ => ∃ (a : Addr) (ns : List Int), vs = [.ref a] ∧ SqL K H a (ns.map V.int) ∧ ns.length ≤ 63 ∧ ∀ H', Q (.bl true) H'
structure Defs (P : Program) (w : World) (K : PySem.W.Frag) (mg : Str → Option Value) (base : Heap) : Prop where
  purses : ∃ f fd, FnOk P w K mg base CX0 2 f fd ["_law_script", "_law_few"] (spPurses K) ∧ Binds K fd ["_law_script", "_law_few"] [] ∧ PySem.W.keepIn K (.ref f) = true ∧ mg "_law_purses" = some (.ref f)
  word : ∃ f fd, FnOk P w K mg base CX0 3 f fd ["_law_purse_here"] spWord ∧ Binds K fd ["_law_purse_here"] [] ∧ PySem.W.keepIn K (.ref f) = true ∧ mg "_law_word" = some (.ref f)
  one : ∃ f fd, FnOk P w K mg base CX0 3 f fd ["_law_purse_here", "_law_some"] spOne ∧ Binds K fd ["_law_purse_here", "_law_some"] [] ∧ PySem.W.keepIn K (.ref f) = true ∧ mg "_law_one_of" = some (.ref f)
  first : ∃ f fd, FnOk P w K mg base CX0 3 f fd ["_law_thing"] (spAll K) ∧ Binds K fd ["_law_thing"] [] ∧ PySem.W.keepIn K (.ref f) = true ∧ mg "_law_first" = some (.ref f)
  called : ∃ f fd, FnOk P w K mg base CX0 3 f fd ["_law_thing"] (spAll K) ∧ Binds K fd ["_law_thing"] [] ∧ PySem.W.keepIn K (.ref f) = true ∧ mg "_law_called" = some (.ref f)
  bare : ∃ f fd, FnOk P w K mg base CX0 3 f fd [] (spBare K) ∧ Binds K fd [] [] ∧ PySem.W.keepIn K (.ref f) = true ∧ mg "_law_bare" = some (.ref f)
  code : ∃ f fd, FnOk P w K mg base CX0 1 f fd ["_law_error"] (spCode K) ∧ Binds K fd ["_law_error"] [] ∧ PySem.W.keepIn K (.ref f) = true ∧ mg "_law_code" = some (.ref f)
  is : ∃ f fd, FnOk P w K mg base CX0 1 f fd ["_law_error"] (spIs K) ∧ Binds K fd ["_law_error"] [] ∧ PySem.W.keepIn K (.ref f) = true ∧ mg "_law_is_error" = some (.ref f)
  right : ∃ f fd, FnG P w K mg base 2 f fd ["_law_some", "_law_noted"] (spRight K) ∧ Binds K fd ["_law_some", "_law_noted"] [] ∧ PySem.W.keepIn K (.ref f) = true ∧ mg "_law_right" = some (.ref f)
structure Free (mg : Str → Option Value) : Prop where
  is : mg "isinstance" = none
  repr : mg "repr" = none
  len : mg "len" = none
  all : mg "all" = none
  list : mg "list" = none
  dict : mg "dict" = none
  tuple : mg "tuple" = none
theorem ok_law {P : Program} {w : World} {K : PySem.W.Frag} {mg : Str → Option Value} {base : Heap} {f : Addr} {fd : FuncData} (F : FnP K "law" sLaw f fd) (T : Tx P w K mg base) (D : Defs P w K mg base) (N : Free mg) :
    FnG P w K mg base 4 f fd ["_law_script"] (spLaw K) := by
  obtain ⟨fP, fdP, GP, bP, kP, gP⟩ := D.purses
  obtain ⟨fW, fdW, GW, bW, kW, gW⟩ := D.word
  obtain ⟨fO, fdO, GO, bO, kO, gO⟩ := D.one
  obtain ⟨fF, fdF, GF, bF, kF, gF⟩ := D.first
  obtain ⟨fL, fdL, GL, bL, kL, gL⟩ := D.called
  obtain ⟨fB, fdB, GB, bB, kB, gB⟩ := D.bare
  obtain ⟨fC, fdC, GC, bC, kC, gC⟩ := D.code
  obtain ⟨fI, fdI, GI, bI, kI, gI⟩ := D.is
  obtain ⟨fR, fdR, GR, bR, kR, gR⟩ := D.right
  refine fnG_of F scLaw (fun vs H Q E h => ?_) (fun cdv A outer s H vs Q E hgd hr h => ?_)
  · obtain ⟨a, ns, rfl, _⟩ := h
    rfl
  · obtain ⟨a, ns, rfl, hS, hl63, k⟩ := h
    have hu := hr.units
    have hu1 := hu_of hr
    have hr1 : Room 1 (A.deeper (envOfC "law" (defScope sLaw) s.heap.objs.size f cdv)) := hr.mono (by decide)
    have hr2 : Room 2 (A.deeper (envOfC "law" (defScope sLaw) s.heap.objs.size f cdv)) := hr.mono (by decide)
    refine ⟨_, PSs.nox (pss_cons (ps_for PassesOwn.never rfl (pi_list (pe_call GP hr2 (by rfl) gP kP bP .nil pass0 (pa_cons (pv 0) (pa_cons pe_int pa_nil)))) (pg_name (i := 1) scLaw.nd rfl (Or.inl rfl))
        (pss_cons (ps_set (i := 2) scLaw.nd rfl (Or.inl rfl) (pe_call GW hr (by rfl) gW kW bW .nil pass0 (pa_cons (pv 1) pa_nil)))
        (pss_cons (ps_set (i := 3) scLaw.nd rfl (Or.inl rfl) (pe_lst (pa_cons pe_non (pa_cons pe_bl (pa_cons pe_bl (pa_cons pe_int (pa_cons (pv 2) (pa_cons (pe_un un_neg (pe_ix ix_list (pv 1) pe_int (fun _ _ => rfl)))
            (pa_cons (pe_tup (pa_cons pe_str (pa_cons pe_int (pa_cons pe_int pa_nil)))) (pa_cons (pe_tup (pa_cons (pv 2) (pa_cons (pe_lst (pa_cons (pv 2) pa_nil)) pa_nil)))
            (pa_cons (pe_disp (pps_cons (pv 2) (pe_lst (pa_cons (pv 2) pa_nil)) pps_nil) (by rfl) (by rfl) (fun z => by cases z) (by decide)) pa_nil)))))))))))
        (pss_cons (ps_set (i := 4) scLaw.nd rfl (Or.inl rfl) (pe_call GO hr (by rfl) gO kO bO .nil pass0 (pa_cons (pv 1) (pa_cons (pe_op op_cat (pv 3) (pe_lst (pa_cons (pe_lst (pa_cons (pv 2) pa_nil))
            (pa_cons (pe_lst (pa_cons (pe_lst (pa_cons (pv 2) pa_nil)) (pa_cons (pe_disp (pps_cons pe_str (pv 2) pps_nil) (by rfl) (by rfl) (fun z => by cases z) (by decide)) pa_nil))) pa_nil)))) pa_nil))))
        (pss_cons (ps_set (i := 5) scLaw.nd rfl (Or.inl rfl) (pe_callB (call_repr hgd hu T.sys) (by rfl) N.repr (by decide +kernel) (pa_cons (pv 4) pa_nil)))
        (pss_cons (ps_par3 (i := 6) (j := 7) (l := 8) rfl scLaw.nd rfl rfl rfl (by decide) (by decide) (by decide) rfl rfl rfl
            (pa_cons (pe_call GF hr (by rfl) gF kF bF .nil pass0 (pa_cons (pv 4) pa_nil)) (pa_cons (pe_call GL hr (by rfl) gL kL bL .nil pass0 (pa_cons (pv 4) pa_nil))
              (pa_cons (pe_call GF hr (by rfl) gF kF bF .nil pass0 (pa_cons (pe_tup (pa_cons pe_str (pa_cons (pv 2) pa_nil))) pa_nil)) pa_nil))) (by rfl))
        (pss_cons (ps_if (PW.pt (pw_or (pt_not (pt_val (pe_callG GR hgd hr2 (by rfl) gR kR bR (pa_cons (pe_call0 GB hr (by rfl) gB kB bB .nil pass0) (pa_cons pe_str pa_nil)))))
            (pw_or1 (pt_not (pt_val (pe_callG GR hgd hr2 (by rfl) gR kR bR (pa_cons (pv 8) (pa_cons (pe_callB (call_repr hgd hu T.sys) (by rfl) N.repr (by decide +kernel) (pa_cons (pe_tup (pa_cons pe_str (pa_cons (pv 2) pa_nil))) pa_nil)) pa_nil)))))))) (pss_one (ps_ret pe_bl)) pss_nil)
        (pss_cons (ps_if (PW.pt (pw_or (pt_not (pt_val (pe_callG GR hgd hr2 (by rfl) gR kR bR (pa_cons (pv 6) (pa_cons (pv 5) pa_nil)))))
            (pw_or1 (pt_not (pt_val (pe_callG GR hgd hr2 (by rfl) gR kR bR (pa_cons (pv 7) (pa_cons (pv 5) pa_nil)))))))) (pss_one (ps_ret pe_bl)) pss_nil)
        (pss_cons (ps_if (pt_val (pe_callB call_isi (by rfl) N.is (by decide +kernel) (pa_cons (pv 4) (pa_cons (pe_bltn (v := .ty "list") (u := .type "list") (by rfl) N.list (by decide +kernel) rfl) pa_nil))))
            (pss_one (ps_expr (pe_bm PySem.F.plainAttrs_list PySem.F.slot_list_append PySem.F.type_list_append mt_append (pv 4) (pa_cons pe_str pa_nil)))) pss_nil)
        (pss_cons (ps_if (pt_val (pe_callB call_isi (by rfl) N.is (by decide +kernel) (pa_cons (pv 4) (pa_cons (pe_bltn (v := .ty "dict") (u := .type "dict") (by rfl) N.dict (by decide +kernel) rfl) pa_nil))))
            (pss_cons (ps_expr (pe_bm PySem.F.plainAttrs_list PySem.F.slot_list_append PySem.F.type_list_append mt_append (pe_dget hu1 (pv 4) (pv 2) (fun _ _ => rfl)) (pa_cons pe_str pa_nil)))
              (pss_one (ps_dput hu1 (pv 4) pe_str pe_int rfl))) pss_nil)
        (pss_cons (ps_if (PW.pt (pw_and (pt_val (pe_callB call_isi (by rfl) N.is (by decide +kernel) (pa_cons (pv 4) (pa_cons (pe_bltn (v := .ty "tuple") (u := .type "tuple") (by rfl) N.tuple (by decide +kernel) rfl) pa_nil))))
              (pw_and1 (pt_cmpR op_eq (pe_callB call_len_seq (by rfl) N.len PySem.boot_len (pa_cons (pv 4) pa_nil)) pe_int (nomark _)))))
            (pss_one (ps_expr (pe_bm PySem.F.plainAttrs_list PySem.F.slot_list_append PySem.F.type_list_append mt_append (pe_ix ix_tup (pv 4) pe_int (fun _ _ => rfl)) (pa_cons pe_str pa_nil)))) pss_nil)
        (pss_one (ps_if (PW.pt (pw_or (pt_not (pt_val (pe_callG GR hgd hr2 (by rfl) gR kR bR (pa_cons (pv 6) (pa_cons (pe_callB (call_repr hgd hu T.sys) (by rfl) N.repr (by decide +kernel) (pa_cons (pv 4) pa_nil)) pa_nil)))))
            (pw_or1 (pt_not (pt_val (pe_callG GR hgd hr2 (by rfl) gR kR bR (pa_cons (pv 7) (pa_cons (pe_callB (call_repr hgd hu T.sys) (by rfl) N.repr (by decide +kernel) (pa_cons (pv 4) pa_nil)) pa_nil)))))))) (pss_one (ps_ret pe_bl)) pss_nil)))))))))))))
      (pss_cons (ps_set (i := 9) scLaw.nd rfl (Or.inl rfl) (pe_lst (pa_cons (pe_mkN PySem.F.excBase_ValueError (T.exc 28 (by decide) (by decide)).1 T.m28 (T.exc 28 (by decide) (by decide)).2) (pa_cons (pe_mkN PySem.F.excBase_ValueError (T.exc 29 (by decide) (by decide)).1 T.m29 (T.exc 29 (by decide) (by decide)).2) pa_nil))))
      (pss_cons (ps_if (pt_cmpR (op_neD hu)
          (pe_lc (own := [("_law_error", 10)]) (g := gName 10) (tt := tYes) (by rfl) scLaw.nd (pi_list (pv 9)) (blkOk_by (own := [("_law_error", 10)]) (N := nLaw) (sc := defScope sLaw) (by decide +kernel))
            (fun _ _ _ _ _ => pg_name (i := 10) scLaw.nd rfl (Or.inl rfl)) (fun _ _ _ _ _ => pts_nil) (fun _ _ _ _ _ => pe_call GC hr1 (by rfl) gC kC bC .nil pass0 (pa_cons (pv 10) pa_nil)))
          (pe_lst (pa_cons (pe_lst (pa_cons pe_int pa_nil)) (pa_cons (pe_lst (pa_cons pe_int pa_nil)) pa_nil))) (nomark _)) (pss_one (ps_ret pe_bl)) pss_nil)
      (pss_cons (ps_expr (pe_bm PySem.F.plainAttrs_list PySem.F.slot_list_append PySem.F.type_list_append mt_append (pv 9) (pa_cons (pe_mkN PySem.F.excBase_ValueError (T.exc 30 (by decide) (by decide)).1 T.m30 (T.exc 30 (by decide) (by decide)).2) pa_nil)))
      (pss_one (ps_ret (pe_and (pe_callB (cr_all rfl) (by rfl) N.all (by decide +kernel) (pa_cons
          (pe_lc (own := [("_law_error", 10)]) (g := gName 10) (tt := tYes) (by rfl) scLaw.nd (pi_list (pv 9)) (blkOk_by (own := [("_law_error", 10)]) (N := nLaw) (sc := defScope sLaw) (by decide +kernel))
            (fun _ _ _ _ _ => pg_name (i := 10) scLaw.nd rfl (Or.inl rfl)) (fun _ _ _ _ _ => pts_nil) (fun _ _ _ _ _ => pe_call GI hr1 (by rfl) gI kI bI .nil pass0 (pa_cons (pv 10) pa_nil))) pa_nil))
        (pe_one (pe_cmpR (op_eqD hu) (pe_call GC hr1 (by rfl) gC kC bC .nil pass0 (pa_cons (pe_ix ix_list (pv 9) pe_int (fun _ _ => rfl)) pa_nil)) (pe_lst pa_nil) (nomark _)))))))))), ?_⟩
    refine ⟨_, rfl, a, ns, 3, rfl, hS, hl63, ⟨by decide, by decide⟩, fun lp ps Hp0 hlen hlp hps s0 => ⟨lp, rfl, ⟨_, SqL.of hlp⟩, ?_⟩⟩
    have item : ∀ {i : Nat} {x : V}, (ps.map V.ref)[i]? = some x → ∃ e, ps[i]? = some e ∧ x = .ref e := fun {i x} h1 => by
      rw [List.getElem?_map] at h1
      cases q : ps[i]? with
      | none => rw [q] at h1; cases h1
      | some e => rw [q] at h1; exact ⟨e, rfl, (Option.some.inj h1).symm⟩
    refine for_list (K := K) (a := lp) (xs := ps.map V.ref) (fun i σ H' => (∃ v1 v2 v3 v4 v5 v6 v7 v8, σ = [some (.ref a), v1, v2, v3, v4, v5, v6, v7, v8, none, none]) ∧ H' lp = some (.lst (ps.map V.ref)) ∧ ∀ p ∈ ps, PurseAt H' p (11 * i))
      ⟨⟨_, _, _, _, _, _, _, _, rfl⟩, hlp, fun p hp => (hps p hp).1⟩ (fun i σ H' _ ⟨_, g, _⟩ => SqL.of g) ?_ ?_
    · rintro i x σ H' hx ⟨⟨v1, v2, v3, v4, v5, v6, v7, v8, rfl⟩, g, hp⟩
      obtain ⟨p, h1, rfl⟩ := item hx
      have hi : i < ps.length := (List.getElem?_eq_some_iff.mp h1).1
      have hm : p ∈ ps := List.mem_of_getElem? h1
      show tTurn K _ [some (.ref a), some (.ref p), v2, v3, v4, v5, v6, v7, v8, none, none] H'
      refine rd_turn (hp p hm) (by omega) fun w2 w3 w4 w5 w6 w7 w8 H2 k2 hp2 => ?_
      refine ⟨⟨_, _, _, _, _, _, _, _, rfl⟩, k2 _ _ (Ne.symm (hps p hm).2) g, fun q hq => ?_⟩
      by_cases e : q = p
      · rw [e]
        exact hp2.up (by omega)
      · obtain ⟨c, z, t, b, h3, h4⟩ := (hp q hq).up (m := 11 * (i + 1)) (by omega)
        exact ⟨c, z, t, b, k2 _ _ e h3, h4⟩
    · rintro σ H1 ⟨⟨v1, v2, v3, v4, v5, v6, v7, v8, rfl⟩, _, _⟩
      intro e28 n28
      have s1 := same_upd (o := ExO (.ref (cl K 28)) e28) n28
      have f28 : upd H1 e28 (ExO (.ref (cl K 28)) e28) e28 = some (ExO (.ref (cl K 28)) e28) := upd_same
      generalize upd H1 e28 (ExO (.ref (cl K 28)) e28) = H2 at s1 f28
      intro e29 n29
      have s2 := same_upd (o := ExO (.ref (cl K 29)) e29) n29
      have f29 : upd H2 e29 (ExO (.ref (cl K 29)) e29) e29 = some (ExO (.ref (cl K 29)) e29) := upd_same
      generalize upd H2 e29 (ExO (.ref (cl K 29)) e29) = H3 at s2 f29
      refine ⟨(by show 2 ≤ sizeLine; decide), fun l hl => ?_⟩
      have s3 := same_upd (o := .lst [.ref e28, .ref e29]) hl
      have fl : upd H3 l (.lst [.ref e28, .ref e29]) l = some (.lst [.ref e28, .ref e29]) := upd_same
      generalize upd H3 l (.lst [.ref e28, .ref e29]) = H4 at s3 fl
      have g28 := s3 _ _ (s2 _ _ f28)
      have g29 := s3 _ _ f29
      refine ⟨_, rfl, l, rfl, ⟨_, SqL.of fl⟩, fun D hD => ?_⟩
      have ii28 : ∀ {H'}, Same H4 H' → IsErr H' e28 (cl K 28) := fun s => .inr (s _ _ g28)
      have ii29 : ∀ {H'}, Same H4 H' → IsErr H' e29 (cl K 29) := fun s => .inr (s _ _ g29)
      refine lc_list (K := K) (a := l) (xs := [.ref e28, .ref e29]) (fun i H' => Same H4 H' ∧ match i with
        | 0 => H' D = some (.lst [])
        | 1 => ∃ r, H' D = some (.lst [.ref r]) ∧ H' r = some (.lst [.int 28]) ∧ r ≠ D
        | _ => ∃ r q, H' D = some (.lst [.ref r, .ref q]) ∧ H' r = some (.lst [.int 28]) ∧ H' q = some (.lst [.int 29])) ⟨same_upd hD, upd_same⟩ (fun i H' _ ⟨s5, _⟩ => SqL.of (s5 _ _ fl)) ?_ ?_
      · rintro i x H' hx ⟨s5, m⟩
        match i, hx, m with
        | 0, hx, m =>
          cases hx
          refine ⟨rfl, ?_⟩
          dsimp only [tYes]
          rw [if_pos rfl]
          refine ⟨_, rfl, e28, 28, rfl, by decide, ii28 s5, fun r H6 h6 s6 n6 => ?_⟩
          have ne : r ≠ D := (ne_of_none m n6).symm
          refine ⟨_, s6 _ _ m, (by show 0 < sizeLine; decide), fun b o z => ?_, r, upd_same, ?_, ne⟩
          · rw [upd_ne (ne_of_none z hD)]
            exact s6 _ _ (s5 _ _ z)
          · rw [upd_ne ne]
            exact h6
        | 1, hx, m =>
          cases hx
          obtain ⟨r, hD1, hr1, ne1⟩ := m
          refine ⟨rfl, ?_⟩
          dsimp only [tYes]
          rw [if_pos rfl]
          refine ⟨_, rfl, e29, 29, rfl, by decide, ii29 s5, fun q H6 h6 s6 n6 => ?_⟩
          have ne : q ≠ D := (ne_of_none hD1 n6).symm
          refine ⟨_, s6 _ _ hD1, (by show 1 < sizeLine; decide), fun b o z => ?_, r, q, upd_same, ?_, ?_⟩
          · rw [upd_ne (ne_of_none z hD)]
            exact s6 _ _ (s5 _ _ z)
          · rw [upd_ne ne1]
            exact s6 _ _ hr1
          · rw [upd_ne ne]
            exact h6
        | m + 2, hx, _ => cases hx
      · rintro H5 ⟨s5, r, q, hD5, hr5, hq5⟩
        refine ⟨(by show 1 ≤ sizeLine; decide), fun q1 n1 => ?_⟩
        have t1 := same_upd (o := .lst [.int 28]) n1
        have u1 : upd H5 q1 (.lst [.int 28]) q1 = some (.lst [.int 28]) := upd_same
        generalize upd H5 q1 (.lst [.int 28]) = H6 at t1 u1
        refine ⟨(by show 1 ≤ sizeLine; decide), fun q2 n2 => ?_⟩
        have t2 := same_upd (o := .lst [.int 29]) n2
        have u2 : upd H6 q2 (.lst [.int 29]) q2 = some (.lst [.int 29]) := upd_same
        generalize upd H6 q2 (.lst [.int 29]) = H7 at t2 u2
        refine ⟨(by show 2 ≤ sizeLine; decide), fun q3 n3 => ?_⟩
        have t3 := same_upd (o := .lst [.ref q1, .ref q2]) n3
        have u3 : upd H7 q3 (.lst [.ref q1, .ref q2]) q3 = some (.lst [.ref q1, .ref q2]) := upd_same
        generalize upd H7 q3 (.lst [.ref q1, .ref q2]) = H8 at t3 u3
        have t13 := t1.trans (t2.trans t3)
        refine ⟨.list [.list [.int 28], .list [.int 29]], .list [.list [.int 28], .list [.int 29]], .lst (SqL.of (t13 _ _ hD5)) (.cons (.lst (SqL.of (t13 _ _ hr5)) (.cons (.int _) .nil)) (.cons (.lst (SqL.of (t13 _ _ hq5)) (.cons (.int _) .nil)) .nil)),
          .lst (SqL.of u3) (.cons (.lst (SqL.of (t3 _ _ (t2 _ _ u1))) (.cons (.int _) .nil)) (.cons (.lst (SqL.of (t3 _ _ u2)) (.cons (.int _) .nil)) .nil)), by decide +kernel, by decide +kernel, _, rfl, ?_⟩
        rw [SeqAt.eqv_refl (.list [.list [.int 28], .list [.int 29]]) (by decide +kernel)]
        refine iteF ?_
        have s8 : Same H4 H8 := s5.trans t13
        refine ⟨_, rfl, .inl ⟨rfl, _, SqL.of (s8 _ _ fl)⟩, fun e30 n30 => ?_⟩
        have s9 := same_upd (o := ExO (.ref (cl K 30)) e30) n30
        have f30 : upd H8 e30 (ExO (.ref (cl K 30)) e30) e30 = some (ExO (.ref (cl K 30)) e30) := upd_same
        generalize upd H8 e30 (ExO (.ref (cl K 30)) e30) = H9 at s9 f30
        have s49 := s8.trans s9
        refine ⟨l, _, _, rfl, rfl, s49 _ _ fl, (by show 2 < sizeLine; decide), ?_⟩
        have x28 : upd H9 l (.lst ([.ref e28, .ref e29] ++ [.ref e30])) e28 = some (ExO (.ref (cl K 28)) e28) := by
          rw [upd_ne (ne_of (s49 _ _ g28) (s49 _ _ fl) fun z => by cases z)]
          exact s49 _ _ g28
        have x29 : upd H9 l (.lst ([.ref e28, .ref e29] ++ [.ref e30])) e29 = some (ExO (.ref (cl K 29)) e29) := by
          rw [upd_ne (ne_of (s49 _ _ g29) (s49 _ _ fl) fun z => by cases z)]
          exact s49 _ _ g29
        have x30 : upd H9 l (.lst ([.ref e28, .ref e29] ++ [.ref e30])) e30 = some (ExO (.ref (cl K 30)) e30) := by
          rw [upd_ne (ne_of f30 (s49 _ _ fl) fun z => by cases z)]
          exact f30
        have xl : upd H9 l (.lst ([.ref e28, .ref e29] ++ [.ref e30])) l = some (.lst [.ref e28, .ref e29, .ref e30]) := upd_same
        generalize upd H9 l (.lst ([.ref e28, .ref e29] ++ [.ref e30])) = HA at x28 x29 x30 xl
        refine ⟨_, rfl, l, rfl, ⟨_, SqL.of xl⟩, fun D2 nD2 => ?_⟩
        refine lc_list (K := K) (a := l) (xs := [.ref e28, .ref e29, .ref e30]) (fun i H' => Same HA H' ∧ H' D2 = some (.lst ((List.replicate i true).map V.bl))) ⟨same_upd nD2, upd_same⟩ (fun i H' _ ⟨s5, _⟩ => SqL.of (s5 _ _ xl)) ?_ ?_
        · rintro i x H' hx ⟨sB, m⟩
          have step : ∀ (e : Addr) (j : Nat), x = .ref e → j < 31 → IsErr HA e (cl K j) → i < 3 → (tCall (spIs K) [] E0 (tCons (tVar 10) tNil)) [some (.ref a), v1, v2, v3, v4, v5, v6, v7, v8, some (.ref l), some x] H' fun y H6 => ∃ acc, H6 D2 = some (.lst acc) ∧ acc.length < sizeLine ∧ (Same HA (upd H6 D2 (.lst (acc ++ [y]))) ∧ (upd H6 D2 (.lst (acc ++ [y]))) D2 = some (.lst ((List.replicate (i + 1) true).map V.bl))) := by
            rintro e j rfl hj he hi
            refine ⟨_, rfl, e, j, rfl, hj, IsErr.same he sB, ?_⟩
            refine ⟨_, m, ?_, fun b o z => ?_, ?_⟩
            · rw [List.length_map, List.length_replicate]
              exact small1000 (by omega)
            · rw [upd_ne (ne_of_none z nD2)]
              exact sB _ _ z
            · rw [upd_same, List.replicate_succ', List.map_append]
              rfl
          match i, hx with
          | 0, hx =>
            cases hx
            exact ⟨rfl, step e28 28 rfl (by decide) (.inr x28) (by decide)⟩
          | 1, hx =>
            cases hx
            exact ⟨rfl, step e29 29 rfl (by decide) (.inr x29) (by decide)⟩
          | 2, hx =>
            cases hx
            exact ⟨rfl, step e30 30 rfl (by decide) (.inr x30) (by decide)⟩
          | m + 3, hx => cases hx
        · rintro HB ⟨sB, m⟩
          refine ⟨D2, List.replicate 3 true, rfl, SqL.of m, true, rfl, iteT ?_⟩
          refine ⟨_, rfl, l, _, _, .ref e30, rfl, rfl, SqL.of (sB _ _ xl), rfl, e30, 30, rfl, by decide, .inr (sB _ _ x30), fun q4 HC h4 s4 n4 => ?_⟩
          refine ⟨(by show 0 ≤ sizeLine; decide), fun q5 n5 => ?_⟩
          refine ⟨.list [], .list [], .lst (SqL.of ((same_upd n5) _ _ h4)) .nil, .lst (SqL.of upd_same) .nil, by decide +kernel, by decide +kernel, ?_⟩
          rw [SeqAt.eqv_refl (.list []) (by decide +kernel)]
          exact k _
end L2.K01
set_option Elab.async false
set_option linter.all false
set_option maxRecDepth 100000
set_option maxHeartbeats 0
namespace L2.EV
open PySem PySem.Spec PyProof.Rows
/-! ### facts of own classes of errors, by names -/
def clsB (K : PySem.W.Frag) (C : Addr) : Bool := match K.lookup C with
  | some ⟨.type "type", _, .cls c, sl⟩ => (match c.mro, sl.toList with
    | .ref D :: up, [_, _, _, _, some (.builtin n), _] => D == C && n == "ValueError.__new__" && !c.hasDel && c.hasDict && PySem.HandSPX.refsVE up
    | _, _ => false)
  | _ => false
theorem clsB_ok {K : PySem.W.Frag} {C : Addr} (h : clsB K C = true) : ∃ nm q N bs bm sn sub ab col dd k0 k1 k2 k3 k5, K.lookup C = some (excClassObj nm q C N bs bm true sn sub ab col dd k0 k1 k2 k3 k5 "ValueError.__new__") ∧ PySem.HandSPX.refsVE bm = true := by
  unfold clsB at h
  split at h
  · next dd c sl e =>
    split at h
    · next D up k0 k1 k2 k3 n k5 em es =>
      obtain ⟨nm, bs, mro, N, qn, hd, sn, sub, ab, col, del⟩ := c
      dsimp only at em h
      subst em
      have esl : sl = #[k0, k1, k2, k3, some (.builtin n), k5] := Array.toList_inj.mp (by rw [es])
      subst esl
      simp only [Bool.and_eq_true, beq_iff_eq, Bool.not_eq_true'] at h
      obtain ⟨⟨⟨⟨rfl, rfl⟩, rfl⟩, rfl⟩, hr⟩ := h
      exact ⟨nm, qn, N, bs, up, sn, sub, ab, col, dd, k0, k1, k2, k3, k5, e, hr⟩
    · cases h
  · cases h
def isB (a b : Option (Option Value)) : Bool := decide (a = b)
/-- an own class with an __init__ that stores one field -/
def errB (K : PySem.W.Frag) (x : Str) : Bool :=
  let C := He.ga K x
  let f := He.ma K C "__init__"
  [He.Fa.ok K (.glo x), clsB K C, isB (PySem.W.findIn K (.ref C) "__setattr__") (some (some (.builtin "object.__setattr__"))),
   decide (PySem.W.subIn K (.ref C) (.type "BaseException") = some true), decide (PySem.W.typeIn K (.ref C) = some (.type "type")),
   PySem.W.keepIn K (.ref C), isB (PySem.W.findIn K (.ref C) "value") (some none), isB (PySem.W.findIn K (.ref C) "__init__") (some (some (.ref f))),
   decide (PySem.W.typeIn K (.ref f) = some (.type "function")),
   isB (PySem.W.findIn K (.ref C) "__getattribute__") (some (some (.builtin "BaseException.__getattribute__"))),
   isB (PySem.W.findIn K (.ref C) "__getattr__") (some none), PySem.W.hasDictIn K C].all id
theorem errB_ok {K : PySem.W.Frag} {x : Str} (h : errB K x = true) : He.Fa.ok K (.glo x) = true ∧ Err K (He.ga K x) (He.ma K (He.ga K x) "__init__") := by
  unfold errB isB at h
  simp only [List.all_cons, List.all_nil, id, Bool.and_true, Bool.and_eq_true, decide_eq_true_eq] at h
  obtain ⟨h0, h1, h2, h3, h4, h5, h6, h7, h8, h9, h10, h11⟩ := h
  exact ⟨h0, ⟨⟨clsB_ok h1, h2, h3, h4, h5⟩, h6, h7, h8, ⟨h9, h10, h3, h11⟩⟩⟩
/-- how isinstance asks the instances of the class at C -/
def asksB (K : PySem.W.Frag) (C : Addr) : Bool :=
  [(PySem.W.clsIn K C).isSome, isB (PySem.W.findIn K (.ref C) "__getattribute__") (some (some (.builtin "BaseException.__getattribute__"))),
   isB (PySem.W.findIn K (.ref C) "__getattr__") (some none), decide (PySem.W.subIn K (.ref C) (.type "BaseException") = some true),
   isB (PySem.W.findIn K (.ref C) "__class__") (some (some (.builtin "object.__class__"))),
   decide (PySem.W.specialIn K (.builtin "object.__class__") "__get__" = some (some (.builtin "getset_descriptor.__get__"))),
   decide (PySem.W.takesIn K (.builtin "object.__class__") = some true), decide (PySem.W.mroIn K C (.type "object") = some true)].all id
theorem asksB_ok {K : PySem.W.Frag} {C : Addr} (h : asksB K C = true) : Asks K C := by
  unfold asksB isB at h
  simp only [List.all_cons, List.all_nil, id, Bool.and_true, Bool.and_eq_true, decide_eq_true_eq] at h
  obtain ⟨h0, h1, h2, h3, h4, h5, h6, h7⟩ := h
  exact ⟨h0, h1, h2, h3, h4, h5, h6, h7⟩
/-! ### such an __init__ -/
abbrev nInit : List Str := ["self", "value"]
theorem ok_init {P : Program} {w : World} {K : PySem.W.Frag} {mg : Str → Option Value} {base : Heap} {st : Stmt} {q : Str} {f C fI : Addr} {fd : FuncData} {dvs : List V} {p1 p2 p3 p4 : Pos}
    (F : FunD K "__init__" q (defArgs st) (defBody st) (defScope st) dvs [] f fd) (S : FnScope nInit nInit (defScope st)) (l1 : (defScope st).names.lookup ("self" : Str) = some NameKind.local) (l2 : (defScope st).names.lookup ("value" : Str) = some NameKind.local)
    (hb : defBody st = [.Assign [.Attribute (.Name "self" p1) "value" p2] (.Name "value" p3) p4]) (E : Err K C fI) : FnOk P w K mg base CX0 1 f fd nInit (spInit C) := by
  refine F.ok S (fun vs H Q E h => ?_) (fun cdv A outer s H vs Q E' hr h => ?_)
  · obtain ⟨a, v, rfl, _⟩ := h
    rfl
  · obtain ⟨a, v, rfl, ha, k⟩ := h
    rw [hb]
    refine ⟨_, PSs.nox (pss_one (ps_ost (pv 0 rfl (Or.inl l1)) (pv 1 rfl (Or.inl l2)))), ?_⟩
    exact ⟨_, rfl, _, rfl, a, C, rfl, E.ox, E.noV, .inl ⟨ha, k⟩⟩
end L2.EV
set_option Elab.async false
set_option linter.all false
set_option maxRecDepth 100000
set_option maxHeartbeats 4000000
namespace L2.EV
open PySem PySem.Spec PyProof.Rows
abbrev argsI (a1 a2 a3 : Pos) : Arguments := { posonlyargs := [], args := [⟨"self", none, a1⟩, ⟨"value", none, a2⟩], vararg := none, kwonlyargs := [], kw_defaults := [], kwarg := none, defaults := [.Constant .none 0 a3] }
abbrev bodyI (p1 p2 p3 p4 : Pos) : List Stmt := [.Assign [.Attribute (.Name "self" p1) "value" p2] (.Name "value" p3) p4]
abbrev scopeI : Scope := { kind := .function, names := [("self", .local), ("value", .local)], isGenerator := false, isCoroutine := false }
/-- def __init__(self, value=None): self.value = value -/
structure Init1 (st : Stmt) : Prop where
  ex : ∃ a1 a2 a3 p1 p2 p3 p4, defArgs st = argsI a1 a2 a3 ∧ defBody st = bodyI p1 p2 p3 p4 ∧ defScope st = scopeI
theorem scI : FnScope nInit nInit scopeI := ⟨rfl, rfl, rfl, by decide +kernel, rfl, by decide +kernel, by decide +kernel⟩
theorem ck_of {P : Program} {w : World} {K : PySem.W.Frag} {mg : Str → Option Value} {base : Heap} {st : Stmt} {x q : Str} {fd : FuncData} (I : Init1 st)
    (F : FunD K "__init__" q (defArgs st) (defBody st) (defScope st) [.non] [] (He.ma K (He.ga K x) "__init__") fd) (gx : mg x = some (.ref (He.ga K x))) (E : Err K (He.ga K x) (He.ma K (He.ga K x) "__init__")) : Ck P w K mg base x (He.ga K x) := by
  obtain ⟨a1, a2, a3, p1, p2, p3, p4, e1, e2, e3⟩ := I.ex
  have S : FnScope nInit nInit (defScope st) := by rw [e3]; exact scI
  refine ⟨gx, _, fd, E, ok_init (p1 := p1) (p2 := p2) (p3 := p3) (p4 := p4) F S (by rw [e3]; rfl) (by rw [e3]; rfl) e2 E, ?_, ?_, ?_⟩
  · rw [e1] at F
    obtain ⟨ds, rv, b⟩ := F.binds1 (ps := nInit) 2 1 (by simp) rfl fun T kV doc pm an cdv ct us its l1 l2 => match us, its, l1, l2 with | [_, _], [_], _, _ => ⟨_, rfl, rfl⟩
    cases rv
    exact fun s self u X => b s [self, u] X rfl
  · rw [e1] at F
    obtain ⟨ds, rv, b⟩ := F.binds1 (ps := nInit) 1 0 (by simp) rfl fun T kV doc pm an cdv ct us its l1 l2 => match us, its, l1, l2 with | [_], [_], _, _ => ⟨_, rfl, rfl⟩
    obtain ⟨d, rfl, r1⟩ := rv.one
    cases (show d = Value.none from r1)
    exact fun s self X => b s [self] X rfl
  · rw [e1] at F
    obtain ⟨its, b⟩ := F.kbindsD (ps := nInit) 1 ["value"] (fun us _ ws => us ++ ws) (by simp) (fun r1 _ r3 => r1.append r3) fun T kV doc pm an cdv ct us its ws l1 l2 l3 => match us, its, ws, l1, l2, l3 with | [_], [_], [_], _, _, _ => ⟨_, rfl, rfl⟩
    exact fun s self u X => b.to s [self] [u] X rfl rfl
end L2.EV
namespace L2.K01
open PySem PySem.Spec PyProof.Rows L2.EV
theorem in0 : Init1 (inClass (top 2) 0) := ⟨⟨_, _, _, _, _, _, _, rfl, rfl, rfl⟩⟩
theorem in1 : Init1 (inClass (top 3) 0) := ⟨⟨_, _, _, _, _, _, _, rfl, rfl, rfl⟩⟩
theorem in2 : Init1 (inClass (top 4) 0) := ⟨⟨_, _, _, _, _, _, _, rfl, rfl, rfl⟩⟩
theorem in3 : Init1 (inClass (top 5) 0) := ⟨⟨_, _, _, _, _, _, _, rfl, rfl, rfl⟩⟩
theorem in4 : Init1 (inClass (top 6) 0) := ⟨⟨_, _, _, _, _, _, _, rfl, rfl, rfl⟩⟩
theorem in5 : Init1 (inClass (top 7) 0) := ⟨⟨_, _, _, _, _, _, _, rfl, rfl, rfl⟩⟩
theorem in6 : Init1 (inClass (top 8) 0) := ⟨⟨_, _, _, _, _, _, _, rfl, rfl, rfl⟩⟩
theorem in7 : Init1 (inClass (top 9) 0) := ⟨⟨_, _, _, _, _, _, _, rfl, rfl, rfl⟩⟩
theorem in8 : Init1 (inClass (top 10) 0) := ⟨⟨_, _, _, _, _, _, _, rfl, rfl, rfl⟩⟩
theorem in9 : Init1 (inClass (top 11) 0) := ⟨⟨_, _, _, _, _, _, _, rfl, rfl, rfl⟩⟩
theorem in10 : Init1 (inClass (top 12) 0) := ⟨⟨_, _, _, _, _, _, _, rfl, rfl, rfl⟩⟩
theorem in11 : Init1 (inClass (top 13) 0) := ⟨⟨_, _, _, _, _, _, _, rfl, rfl, rfl⟩⟩
theorem in12 : Init1 (inClass (top 14) 0) := ⟨⟨_, _, _, _, _, _, _, rfl, rfl, rfl⟩⟩
theorem in13 : Init1 (inClass (top 15) 0) := ⟨⟨_, _, _, _, _, _, _, rfl, rfl, rfl⟩⟩
theorem in14 : Init1 (inClass (top 16) 0) := ⟨⟨_, _, _, _, _, _, _, rfl, rfl, rfl⟩⟩
theorem in15 : Init1 (inClass (top 17) 0) := ⟨⟨_, _, _, _, _, _, _, rfl, rfl, rfl⟩⟩
theorem in16 : Init1 (inClass (top 18) 0) := ⟨⟨_, _, _, _, _, _, _, rfl, rfl, rfl⟩⟩
theorem in17 : Init1 (inClass (top 19) 0) := ⟨⟨_, _, _, _, _, _, _, rfl, rfl, rfl⟩⟩
theorem in18 : Init1 (inClass (top 20) 0) := ⟨⟨_, _, _, _, _, _, _, rfl, rfl, rfl⟩⟩
theorem in19 : Init1 (inClass (top 21) 0) := ⟨⟨_, _, _, _, _, _, _, rfl, rfl, rfl⟩⟩
theorem in20 : Init1 (inClass (top 22) 0) := ⟨⟨_, _, _, _, _, _, _, rfl, rfl, rfl⟩⟩
theorem in21 : Init1 (inClass (top 23) 0) := ⟨⟨_, _, _, _, _, _, _, rfl, rfl, rfl⟩⟩
theorem in22 : Init1 (inClass (top 24) 0) := ⟨⟨_, _, _, _, _, _, _, rfl, rfl, rfl⟩⟩
theorem in23 : Init1 (inClass (top 25) 0) := ⟨⟨_, _, _, _, _, _, _, rfl, rfl, rfl⟩⟩
theorem in24 : Init1 (inClass (top 26) 0) := ⟨⟨_, _, _, _, _, _, _, rfl, rfl, rfl⟩⟩
theorem in25 : Init1 (inClass (top 27) 0) := ⟨⟨_, _, _, _, _, _, _, rfl, rfl, rfl⟩⟩
theorem in26 : Init1 (inClass (top 28) 0) := ⟨⟨_, _, _, _, _, _, _, rfl, rfl, rfl⟩⟩
theorem in27 : Init1 (inClass (top 29) 0) := ⟨⟨_, _, _, _, _, _, _, rfl, rfl, rfl⟩⟩
end L2.K01
set_option Elab.async false
set_option linter.all false
set_option maxRecDepth 100000
set_option maxHeartbeats 4000000
namespace L2.K01
open PySem PySem.Spec PyProof.Rows L2.EV
def dn (x : Str) (i : Nat) : He.DefD := ⟨(x, none), x, x, defArgs (top i), defBody (top i), defScope (top i), [], []⟩
def di (x q : Str) (i : Nat) : He.DefD := ⟨(x, some "__init__"), "__init__", q, defArgs (inClass (top i) 0), defBody (inClass (top i) 0), defScope (inClass (top i) 0), [.non], []⟩
def fn : List He.DefD := [dn "_law_purse" 33, dn "_law_mixed" 34, dn "_law_draw" 35, dn "_law_purses" 36, dn "_law_one_of" 37, dn "_law_word" 38, dn "_law_first" 39, dn "_law_called" 40, dn "_law_bare" 41, dn "_law_code" 42, dn "_law_is_error" 43, dn "_law_right" 44, dn "law" 45]
def fnI : List He.DefD := [di "InvalidWord" "InvalidWord.__init__" 2, di "InvalidBook" "InvalidBook.__init__" 3, di "InvalidEffect" "InvalidEffect.__init__" 4, di "InvalidManner" "InvalidManner.__init__" 5, di "InvalidManners" "InvalidManners.__init__" 6, di "InvalidRooms" "InvalidRooms.__init__" 7, di "InvalidManual" "InvalidManual.__init__" 8, di "InvalidManuals" "InvalidManuals.__init__" 9, di "InvalidChange" "InvalidChange.__init__" 10, di "InvalidChanges" "InvalidChanges.__init__" 11, di "InvalidRoom" "InvalidRoom.__init__" 12, di "InvalidWay" "InvalidWay.__init__" 13, di "InvalidCount" "InvalidCount.__init__" 14, di "InvalidCard" "InvalidCard.__init__" 15, di "InvalidMark" "InvalidMark.__init__" 16, di "InvalidExpression" "InvalidExpression.__init__" 17, di "InvalidTable" "InvalidTable.__init__" 18, di "InvalidRests" "InvalidRests.__init__" 19, di "InvalidRule" "InvalidRule.__init__" 20, di "InvalidLot" "InvalidLot.__init__" 21, di "InvalidMending" "InvalidMending.__init__" 22, di "InvalidHouse" "InvalidHouse.__init__" 23, di "InvalidSpot" "InvalidSpot.__init__" 24, di "InvalidScript" "InvalidScript.__init__" 25, di "InvalidText" "InvalidText.__init__" 26, di "InvalidLog" "InvalidLog.__init__" 27, di "Refused" "Refused.__init__" 28, di "TooMany" "TooMany.__init__" 29]
def fa : List He.Fa := [.glo "_law_purse", .glo "_law_mixed", .glo "_law_draw", .glo "_law_purses", .glo "_law_one_of", .glo "_law_word", .glo "_law_first", .glo "_law_called", .glo "_law_bare", .glo "_law_code", .glo "_law_is_error", .glo "_law_right", .glo "law", .free "int", .free "sum", .free "max", .free "min", .free "range", .free "len", .free "repr", .free "isinstance", .free "all", .free "list", .free "dict", .free "tuple", .free "ValueError"]
def more (K : PySem.W.Frag) : Bool :=
  (K.lookup sysModules).isSome &&
  cN.all (errB K) && cM.all (fun x => asksB K (He.ga K x)) &&
  (List.range 31).all (fun i => (List.range 31).all fun j => decide (PySem.W.kitOne K (.ref (He.ga K (cM.getD i ""))) (.ref (He.ga K (cM.getD j ""))) = some (decide (i = j || j = 30)))) &&
  cM.all (fun x => decide (PySem.W.kitOne K (.ref (He.ga K x)) (.type "ValueError") = some true)) &&
  (cM.drop 28).all (fun x => He.Fa.ok K (.glo x) && PySem.W.excIn K (He.ga K x) He.veBase "ValueError.__new__" && PySem.W.keepIn K (.ref (He.ga K x)))
abbrev Al : Type := He.AlD × Bool
def obs (g : Addr → Option Obj) : Al := let K := He.frG g (sysModules :: He.asD g 5); (He.obsD fa (fn ++ fnI) K, more K)
def hk : PySem.W.Hook where
  α := Al
  obs := fun s => obs s.heap.get?
  val := fun _ => (He.valD (fn ++ fnI), true)
  says := fun _ h => ∃ K : PySem.W.Frag, K.In h ∧ He.SaysD fa (fn ++ fnI) K ∧ more K = true
  of := fun _ _ e => ⟨_, He.frG_in, congrArg (fun z : Al => z.1) e, congrArg (fun z : Al => z.2) e⟩
  keeps := fun _ _ _ ⟨K, hK, c⟩ k => ⟨K, PySem.W.Frag.In.keeps hK k, c⟩
abbrev R : PySem.W.OpenRow := PySem.W.OpenLaw.row PySem.Challenge.rw_withinbooks_k01_errors_made
def ob (s : PySem.W.SharedT) : Al := obs (HandSHeadRun.getT s)
theorem ob_eq (s : PySem.W.SharedT) : ob s = hk.obs s.abs := by
  have e : HandSHeadRun.getT s = s.abs.heap.get? := funext (HandSHeadRun.getT_eq s)
  show obs _ = obs _
  rw [e]
def loose : List Str := cM ++ (["_law_purse", "_law_mixed", "_law_draw", "_law_purses", "_law_one_of", "_law_word", "_law_first", "_law_called", "_law_bare", "_law_code", "_law_is_error", "_law_right"] : List Str)
theorem nm0 : cM.getD 0 "" = ("InvalidWord" : Str) := rfl
theorem nm1 : cM.getD 1 "" = ("InvalidBook" : Str) := rfl
theorem nm2 : cM.getD 2 "" = ("InvalidEffect" : Str) := rfl
theorem nm3 : cM.getD 3 "" = ("InvalidManner" : Str) := rfl
theorem nm4 : cM.getD 4 "" = ("InvalidManners" : Str) := rfl
theorem nm5 : cM.getD 5 "" = ("InvalidRooms" : Str) := rfl
theorem nm6 : cM.getD 6 "" = ("InvalidManual" : Str) := rfl
theorem nm7 : cM.getD 7 "" = ("InvalidManuals" : Str) := rfl
theorem nm8 : cM.getD 8 "" = ("InvalidChange" : Str) := rfl
theorem nm9 : cM.getD 9 "" = ("InvalidChanges" : Str) := rfl
theorem nm10 : cM.getD 10 "" = ("InvalidRoom" : Str) := rfl
theorem nm11 : cM.getD 11 "" = ("InvalidWay" : Str) := rfl
theorem nm12 : cM.getD 12 "" = ("InvalidCount" : Str) := rfl
theorem nm13 : cM.getD 13 "" = ("InvalidCard" : Str) := rfl
theorem nm14 : cM.getD 14 "" = ("InvalidMark" : Str) := rfl
theorem nm15 : cM.getD 15 "" = ("InvalidExpression" : Str) := rfl
theorem nm16 : cM.getD 16 "" = ("InvalidTable" : Str) := rfl
theorem nm17 : cM.getD 17 "" = ("InvalidRests" : Str) := rfl
theorem nm18 : cM.getD 18 "" = ("InvalidRule" : Str) := rfl
theorem nm19 : cM.getD 19 "" = ("InvalidLot" : Str) := rfl
theorem nm20 : cM.getD 20 "" = ("InvalidMending" : Str) := rfl
theorem nm21 : cM.getD 21 "" = ("InvalidHouse" : Str) := rfl
theorem nm22 : cM.getD 22 "" = ("InvalidSpot" : Str) := rfl
theorem nm23 : cM.getD 23 "" = ("InvalidScript" : Str) := rfl
theorem nm24 : cM.getD 24 "" = ("InvalidText" : Str) := rfl
theorem nm25 : cM.getD 25 "" = ("InvalidLog" : Str) := rfl
theorem nm26 : cM.getD 26 "" = ("Refused" : Str) := rfl
theorem nm27 : cM.getD 27 "" = ("TooMany" : Str) := rfl
theorem nm28 : cM.getD 28 "" = ("NothingToUndo" : Str) := rfl
theorem nm29 : cM.getD 29 "" = ("NothingToRedo" : Str) := rfl
theorem nm30 : cM.getD 30 "" = ("PurseError" : Str) := rfl
theorem lenM : cM.length = 31 := rfl
theorem getD_mem {α : Type} {l : List α} {j k : Nat} {d : α} (h : j < l.length) (hk : k ≤ j) : l.getD j d ∈ l.drop k := by
  have e : l.getD j d = l[j] := by simp [List.getD, h]
  rw [e]
  refine List.mem_of_getElem? (i := j - k) ?_
  rw [List.getElem?_drop, show k + (j - k) = j by omega]
  exact List.getElem?_eq_getElem h
structure More (K : PySem.W.Frag) : Prop where
  sys : (K.lookup sysModules).isSome = true
  err : ∀ x ∈ cN, errB K x = true
  asks : ∀ x ∈ cM, asksB K (He.ga K x) = true
  kit : ∀ i ∈ List.range 31, ∀ j ∈ List.range 31, PySem.W.kitOne K (.ref (He.ga K (cM.getD i ""))) (.ref (He.ga K (cM.getD j ""))) = some (decide (i = j || j = 30))
  kitV : ∀ x ∈ cM, PySem.W.kitOne K (.ref (He.ga K x)) (.type "ValueError") = some true
  own : ∀ x ∈ cM.drop 28, He.Fa.ok K (.glo x) = true ∧ PySem.W.excIn K (He.ga K x) He.veBase "ValueError.__new__" = true ∧ PySem.W.keepIn K (.ref (He.ga K x)) = true
theorem more_ok {K : PySem.W.Frag} (h : more K = true) : More K := by
  unfold more at h
  obtain ⟨h, h6⟩ := Bool.and_eq_true_iff.mp h
  obtain ⟨h, h5⟩ := Bool.and_eq_true_iff.mp h
  obtain ⟨h, h4⟩ := Bool.and_eq_true_iff.mp h
  obtain ⟨h, h3⟩ := Bool.and_eq_true_iff.mp h
  obtain ⟨h1, h2⟩ := Bool.and_eq_true_iff.mp h
  refine ⟨h1, fun x hx => List.all_eq_true.mp h2 x hx, fun x hx => List.all_eq_true.mp h3 x hx, fun i hi j hj => of_decide_eq_true (List.all_eq_true.mp (List.all_eq_true.mp h4 i hi) j hj), fun x hx => of_decide_eq_true (List.all_eq_true.mp h5 x hx), fun x hx => ?_⟩
  obtain ⟨c, c3⟩ := Bool.and_eq_true_iff.mp (List.all_eq_true.mp h6 x hx)
  obtain ⟨c1, c2⟩ := Bool.and_eq_true_iff.mp c
  exact ⟨c1, c2, c3⟩
theorem memN {j : Nat} (h : j < 28) : cM.getD j "" ∈ cN := by
  have e : cM.getD j "" = cN.getD j "" := by
    show ((cN ++ (["NothingToUndo", "NothingToRedo", "PurseError"] : List Str))[j]?).getD "" = (cN[j]?).getD ""
    rw [List.getElem?_append_left (by exact h)]
  rw [e]
  exact (List.drop_zero (l := cN)) ▸ getD_mem (k := 0) (by exact h) (Nat.zero_le _)
theorem memM {j : Nat} (h : j < 31) : cM.getD j "" ∈ cM := (List.drop_zero (l := cM)) ▸ getD_mem (k := 0) (by exact h) (Nat.zero_le _)
theorem tx_of {P : Program} {w : World} {K : PySem.W.Frag} {h : Heap} {mg : Str → Option Value} {base : Heap} (X : K.In h) (G : h.Ns mainGlobals mg) (c : He.SaysD fa (fn ++ fnI) K) (M : More K) : Tx P w K mg base where
  c0 := by
    obtain ⟨fd, F⟩ := c.def_ 13 (d := di "InvalidWord" "InvalidWord.__init__" 2) rfl
    have e := M.err _ (memN (j := 0) (by decide))
    unfold cl
    rw [nm0] at e ⊢
    obtain ⟨g, E⟩ := errB_ok e
    exact ck_of in0 F (He.glo_ok X G g) E
  c1 := by
    obtain ⟨fd, F⟩ := c.def_ 14 (d := di "InvalidBook" "InvalidBook.__init__" 3) rfl
    have e := M.err _ (memN (j := 1) (by decide))
    unfold cl
    rw [nm1] at e ⊢
    obtain ⟨g, E⟩ := errB_ok e
    exact ck_of in1 F (He.glo_ok X G g) E
  c2 := by
    obtain ⟨fd, F⟩ := c.def_ 15 (d := di "InvalidEffect" "InvalidEffect.__init__" 4) rfl
    have e := M.err _ (memN (j := 2) (by decide))
    unfold cl
    rw [nm2] at e ⊢
    obtain ⟨g, E⟩ := errB_ok e
    exact ck_of in2 F (He.glo_ok X G g) E
  c3 := by
    obtain ⟨fd, F⟩ := c.def_ 16 (d := di "InvalidManner" "InvalidManner.__init__" 5) rfl
    have e := M.err _ (memN (j := 3) (by decide))
    unfold cl
    rw [nm3] at e ⊢
    obtain ⟨g, E⟩ := errB_ok e
    exact ck_of in3 F (He.glo_ok X G g) E
  c4 := by
    obtain ⟨fd, F⟩ := c.def_ 17 (d := di "InvalidManners" "InvalidManners.__init__" 6) rfl
    have e := M.err _ (memN (j := 4) (by decide))
    unfold cl
    rw [nm4] at e ⊢
    obtain ⟨g, E⟩ := errB_ok e
    exact ck_of in4 F (He.glo_ok X G g) E
  c5 := by
    obtain ⟨fd, F⟩ := c.def_ 18 (d := di "InvalidRooms" "InvalidRooms.__init__" 7) rfl
    have e := M.err _ (memN (j := 5) (by decide))
    unfold cl
    rw [nm5] at e ⊢
    obtain ⟨g, E⟩ := errB_ok e
    exact ck_of in5 F (He.glo_ok X G g) E
  c6 := by
    obtain ⟨fd, F⟩ := c.def_ 19 (d := di "InvalidManual" "InvalidManual.__init__" 8) rfl
    have e := M.err _ (memN (j := 6) (by decide))
    unfold cl
    rw [nm6] at e ⊢
    obtain ⟨g, E⟩ := errB_ok e
    exact ck_of in6 F (He.glo_ok X G g) E
  c7 := by
    obtain ⟨fd, F⟩ := c.def_ 20 (d := di "InvalidManuals" "InvalidManuals.__init__" 9) rfl
    have e := M.err _ (memN (j := 7) (by decide))
    unfold cl
    rw [nm7] at e ⊢
    obtain ⟨g, E⟩ := errB_ok e
    exact ck_of in7 F (He.glo_ok X G g) E
  c8 := by
    obtain ⟨fd, F⟩ := c.def_ 21 (d := di "InvalidChange" "InvalidChange.__init__" 10) rfl
    have e := M.err _ (memN (j := 8) (by decide))
    unfold cl
    rw [nm8] at e ⊢
    obtain ⟨g, E⟩ := errB_ok e
    exact ck_of in8 F (He.glo_ok X G g) E
  c9 := by
    obtain ⟨fd, F⟩ := c.def_ 22 (d := di "InvalidChanges" "InvalidChanges.__init__" 11) rfl
    have e := M.err _ (memN (j := 9) (by decide))
    unfold cl
    rw [nm9] at e ⊢
    obtain ⟨g, E⟩ := errB_ok e
    exact ck_of in9 F (He.glo_ok X G g) E
  c10 := by
    obtain ⟨fd, F⟩ := c.def_ 23 (d := di "InvalidRoom" "InvalidRoom.__init__" 12) rfl
    have e := M.err _ (memN (j := 10) (by decide))
    unfold cl
    rw [nm10] at e ⊢
    obtain ⟨g, E⟩ := errB_ok e
    exact ck_of in10 F (He.glo_ok X G g) E
  c11 := by
    obtain ⟨fd, F⟩ := c.def_ 24 (d := di "InvalidWay" "InvalidWay.__init__" 13) rfl
    have e := M.err _ (memN (j := 11) (by decide))
    unfold cl
    rw [nm11] at e ⊢
    obtain ⟨g, E⟩ := errB_ok e
    exact ck_of in11 F (He.glo_ok X G g) E
  c12 := by
    obtain ⟨fd, F⟩ := c.def_ 25 (d := di "InvalidCount" "InvalidCount.__init__" 14) rfl
    have e := M.err _ (memN (j := 12) (by decide))
    unfold cl
    rw [nm12] at e ⊢
    obtain ⟨g, E⟩ := errB_ok e
    exact ck_of in12 F (He.glo_ok X G g) E
  c13 := by
    obtain ⟨fd, F⟩ := c.def_ 26 (d := di "InvalidCard" "InvalidCard.__init__" 15) rfl
    have e := M.err _ (memN (j := 13) (by decide))
    unfold cl
    rw [nm13] at e ⊢
    obtain ⟨g, E⟩ := errB_ok e
    exact ck_of in13 F (He.glo_ok X G g) E
  c14 := by
    obtain ⟨fd, F⟩ := c.def_ 27 (d := di "InvalidMark" "InvalidMark.__init__" 16) rfl
    have e := M.err _ (memN (j := 14) (by decide))
    unfold cl
    rw [nm14] at e ⊢
    obtain ⟨g, E⟩ := errB_ok e
    exact ck_of in14 F (He.glo_ok X G g) E
  c15 := by
    obtain ⟨fd, F⟩ := c.def_ 28 (d := di "InvalidExpression" "InvalidExpression.__init__" 17) rfl
    have e := M.err _ (memN (j := 15) (by decide))
    unfold cl
    rw [nm15] at e ⊢
    obtain ⟨g, E⟩ := errB_ok e
    exact ck_of in15 F (He.glo_ok X G g) E
  c16 := by
    obtain ⟨fd, F⟩ := c.def_ 29 (d := di "InvalidTable" "InvalidTable.__init__" 18) rfl
    have e := M.err _ (memN (j := 16) (by decide))
    unfold cl
    rw [nm16] at e ⊢
    obtain ⟨g, E⟩ := errB_ok e
    exact ck_of in16 F (He.glo_ok X G g) E
  c17 := by
    obtain ⟨fd, F⟩ := c.def_ 30 (d := di "InvalidRests" "InvalidRests.__init__" 19) rfl
    have e := M.err _ (memN (j := 17) (by decide))
    unfold cl
    rw [nm17] at e ⊢
    obtain ⟨g, E⟩ := errB_ok e
    exact ck_of in17 F (He.glo_ok X G g) E
  c18 := by
    obtain ⟨fd, F⟩ := c.def_ 31 (d := di "InvalidRule" "InvalidRule.__init__" 20) rfl
    have e := M.err _ (memN (j := 18) (by decide))
    unfold cl
    rw [nm18] at e ⊢
    obtain ⟨g, E⟩ := errB_ok e
    exact ck_of in18 F (He.glo_ok X G g) E
  c19 := by
    obtain ⟨fd, F⟩ := c.def_ 32 (d := di "InvalidLot" "InvalidLot.__init__" 21) rfl
    have e := M.err _ (memN (j := 19) (by decide))
    unfold cl
    rw [nm19] at e ⊢
    obtain ⟨g, E⟩ := errB_ok e
    exact ck_of in19 F (He.glo_ok X G g) E
  c20 := by
    obtain ⟨fd, F⟩ := c.def_ 33 (d := di "InvalidMending" "InvalidMending.__init__" 22) rfl
    have e := M.err _ (memN (j := 20) (by decide))
    unfold cl
    rw [nm20] at e ⊢
    obtain ⟨g, E⟩ := errB_ok e
    exact ck_of in20 F (He.glo_ok X G g) E
  c21 := by
    obtain ⟨fd, F⟩ := c.def_ 34 (d := di "InvalidHouse" "InvalidHouse.__init__" 23) rfl
    have e := M.err _ (memN (j := 21) (by decide))
    unfold cl
    rw [nm21] at e ⊢
    obtain ⟨g, E⟩ := errB_ok e
    exact ck_of in21 F (He.glo_ok X G g) E
  c22 := by
    obtain ⟨fd, F⟩ := c.def_ 35 (d := di "InvalidSpot" "InvalidSpot.__init__" 24) rfl
    have e := M.err _ (memN (j := 22) (by decide))
    unfold cl
    rw [nm22] at e ⊢
    obtain ⟨g, E⟩ := errB_ok e
    exact ck_of in22 F (He.glo_ok X G g) E
  c23 := by
    obtain ⟨fd, F⟩ := c.def_ 36 (d := di "InvalidScript" "InvalidScript.__init__" 25) rfl
    have e := M.err _ (memN (j := 23) (by decide))
    unfold cl
    rw [nm23] at e ⊢
    obtain ⟨g, E⟩ := errB_ok e
    exact ck_of in23 F (He.glo_ok X G g) E
  c24 := by
    obtain ⟨fd, F⟩ := c.def_ 37 (d := di "InvalidText" "InvalidText.__init__" 26) rfl
    have e := M.err _ (memN (j := 24) (by decide))
    unfold cl
    rw [nm24] at e ⊢
    obtain ⟨g, E⟩ := errB_ok e
    exact ck_of in24 F (He.glo_ok X G g) E
  c25 := by
    obtain ⟨fd, F⟩ := c.def_ 38 (d := di "InvalidLog" "InvalidLog.__init__" 27) rfl
    have e := M.err _ (memN (j := 25) (by decide))
    unfold cl
    rw [nm25] at e ⊢
    obtain ⟨g, E⟩ := errB_ok e
    exact ck_of in25 F (He.glo_ok X G g) E
  c26 := by
    obtain ⟨fd, F⟩ := c.def_ 39 (d := di "Refused" "Refused.__init__" 28) rfl
    have e := M.err _ (memN (j := 26) (by decide))
    unfold cl
    rw [nm26] at e ⊢
    obtain ⟨g, E⟩ := errB_ok e
    exact ck_of in26 F (He.glo_ok X G g) E
  c27 := by
    obtain ⟨fd, F⟩ := c.def_ 40 (d := di "TooMany" "TooMany.__init__" 29) rfl
    have e := M.err _ (memN (j := 27) (by decide))
    unfold cl
    rw [nm27] at e ⊢
    obtain ⟨g, E⟩ := errB_ok e
    exact ck_of in27 F (He.glo_ok X G g) E
  asks := fun j hj => asksB_ok (M.asks _ (memM hj))
  kit := fun i j hi hj => M.kit i (List.mem_range.mpr hi) j (List.mem_range.mpr hj)
  kitV := fun i hi => M.kitV _ (memM hi)
  m28 := by
    have e := M.own _ (getD_mem (l := cM) (j := 28) (k := 28) (d := "") (by decide) (by decide))
    unfold cl
    rw [nm28] at e ⊢
    exact He.glo_ok X G e.1
  m29 := by
    have e := M.own _ (getD_mem (l := cM) (j := 29) (k := 28) (d := "") (by decide) (by decide))
    unfold cl
    rw [nm29] at e ⊢
    exact He.glo_ok X G e.1
  m30 := by
    have e := M.own _ (getD_mem (l := cM) (j := 30) (k := 28) (d := "") (by decide) (by decide))
    unfold cl
    rw [nm30] at e ⊢
    exact He.glo_ok X G e.1
  exc := fun j h1 h2 => (M.own _ (getD_mem (l := cM) (j := j) (k := 28) (d := "") h2 h1)).2
  sys := M.sys
  errs := fun j hj => ⟨_, (errB_ok (M.err _ (memN hj))).2⟩
theorem facts {P : Program} {w : World} {K : PySem.W.Frag} {h : Heap} {mg : Str → Option Value} {f : Addr} (X : K.In h) (G : h.Ns mainGlobals mg) (hfa : mg ("law" : Str) = some (.ref f)) (c : He.SaysD fa (fn ++ fnI) K) (M : More K) :
    ∃ fd : FuncData, (∀ (s : Shared) (v : Value), BindsTo s fd ⟨[v], []⟩ [("_law_script", v)]) ∧ ∀ base : Heap, K.In base → base.Ns mainGlobals mg → FnG P w K mg base 4 f fd ["_law_script"] (spLaw K) := by
  obtain ⟨fdP, FP⟩ := c.def_ 0 (d := dn "_law_purse" 33) rfl
  obtain ⟨fdX, FX⟩ := c.def_ 1 (d := dn "_law_mixed" 34) rfl
  obtain ⟨fdD, FD⟩ := c.def_ 2 (d := dn "_law_draw" 35) rfl
  obtain ⟨fdQ, FQ⟩ := c.def_ 3 (d := dn "_law_purses" 36) rfl
  obtain ⟨fdO, FO⟩ := c.def_ 4 (d := dn "_law_one_of" 37) rfl
  obtain ⟨fdW, FW⟩ := c.def_ 5 (d := dn "_law_word" 38) rfl
  obtain ⟨fdF, FF⟩ := c.def_ 6 (d := dn "_law_first" 39) rfl
  obtain ⟨fdL, FL⟩ := c.def_ 7 (d := dn "_law_called" 40) rfl
  obtain ⟨fdB, FB⟩ := c.def_ 8 (d := dn "_law_bare" 41) rfl
  obtain ⟨fdC, FC⟩ := c.def_ 9 (d := dn "_law_code" 42) rfl
  obtain ⟨fdI, FI⟩ := c.def_ 10 (d := dn "_law_is_error" 43) rfl
  obtain ⟨fdR, FR⟩ := c.def_ 11 (d := dn "_law_right" 44) rfl
  obtain ⟨fdZ, FZ⟩ := c.def_ 12 (d := dn "law" 45) rfl
  have gP := He.glo_ok X G (c.fact 0 (f := .glo "_law_purse") rfl)
  have gX := He.glo_ok X G (c.fact 1 (f := .glo "_law_mixed") rfl)
  have gD := He.glo_ok X G (c.fact 2 (f := .glo "_law_draw") rfl)
  have gQ := He.glo_ok X G (c.fact 3 (f := .glo "_law_purses") rfl)
  have gO := He.glo_ok X G (c.fact 4 (f := .glo "_law_one_of") rfl)
  have gW := He.glo_ok X G (c.fact 5 (f := .glo "_law_word") rfl)
  have gF := He.glo_ok X G (c.fact 6 (f := .glo "_law_first") rfl)
  have gL := He.glo_ok X G (c.fact 7 (f := .glo "_law_called") rfl)
  have gB := He.glo_ok X G (c.fact 8 (f := .glo "_law_bare") rfl)
  have gC := He.glo_ok X G (c.fact 9 (f := .glo "_law_code") rfl)
  have gI := He.glo_ok X G (c.fact 10 (f := .glo "_law_is_error") rfl)
  have gR := He.glo_ok X G (c.fact 11 (f := .glo "_law_right") rfl)
  have m0 := He.free_ok X G (c.fact 13 (f := .free "int") rfl)
  have m1 := He.free_ok X G (c.fact 14 (f := .free "sum") rfl)
  have m2 := He.free_ok X G (c.fact 15 (f := .free "max") rfl)
  have m3 := He.free_ok X G (c.fact 16 (f := .free "min") rfl)
  have m4 := He.free_ok X G (c.fact 17 (f := .free "range") rfl)
  have m5 := He.free_ok X G (c.fact 18 (f := .free "len") rfl)
  have m6 := He.free_ok X G (c.fact 19 (f := .free "repr") rfl)
  have m7 := He.free_ok X G (c.fact 20 (f := .free "isinstance") rfl)
  have m8 := He.free_ok X G (c.fact 21 (f := .free "all") rfl)
  have m9 := He.free_ok X G (c.fact 22 (f := .free "list") rfl)
  have m10 := He.free_ok X G (c.fact 23 (f := .free "dict") rfl)
  have m11 := He.free_ok X G (c.fact 24 (f := .free "tuple") rfl)
  have m12 := He.free_ok X G (c.fact 25 (f := .free "ValueError") rfl)
  have e := hfa.symm.trans (He.glo_ok X G (c.fact 12 (f := .glo "law") rfl))
  cases e
  have b := FunD.bindsA (ps := ["_law_script"]) FZ fun _ _ _ _ _ _ us hl => match us, hl with | [_], _ => rfl
  refine ⟨fdZ, fun s v => b s [v] rfl, fun base _ _ => ?_⟩
  have T : Tx P w K mg base := tx_of X G c M
  have bQ := FunD.bindsN (ps := ["_law_script", "_law_few"]) FQ fun _ _ _ _ _ _ us hl => match us, hl with | [_, _], _ => rfl
  have bD := FunD.bindsN (ps := ["_law_purse_here", "_law_many"]) FD fun _ _ _ _ _ _ us hl => match us, hl with | [_, _], _ => rfl
  have bW := FunD.bindsN (ps := ["_law_purse_here"]) FW fun _ _ _ _ _ _ us hl => match us, hl with | [_], _ => rfl
  have bO := FunD.bindsN (ps := ["_law_purse_here", "_law_some"]) FO fun _ _ _ _ _ _ us hl => match us, hl with | [_, _], _ => rfl
  have bF := FunD.bindsN (ps := ["_law_thing"]) FF fun _ _ _ _ _ _ us hl => match us, hl with | [_], _ => rfl
  have bL := FunD.bindsN (ps := ["_law_thing"]) FL fun _ _ _ _ _ _ us hl => match us, hl with | [_], _ => rfl
  have bB := FunD.bindsN (ps := []) FB fun _ _ _ _ _ _ us hl => match us, hl with | [], _ => rfl
  have bC := FunD.bindsN (ps := ["_law_error"]) FC fun _ _ _ _ _ _ us hl => match us, hl with | [_], _ => rfl
  have bI := FunD.bindsN (ps := ["_law_error"]) FI fun _ _ _ _ _ _ us hl => match us, hl with | [_], _ => rfl
  have bR := FunD.bindsN (ps := ["_law_some", "_law_noted"]) FR fun _ _ _ _ _ _ us hl => match us, hl with | [_, _], _ => rfl
  have GD := ok_draw (P := P) (w := w) (base := base) FD FX gX m0 m4
  have GC := ok_code (P := P) (w := w) (base := base) FC T m7 m4 m5
  have GI := ok_is (P := P) (w := w) (base := base) FI T m7 m12
  refine ok_law FZ T ⟨⟨_, _, ok_purses FQ FP gP m1 m0 m2 m3 m5 m4, bQ, FQ.kp, gQ⟩, ⟨_, _, ok_word FW GD bD FD.kp gD m4, bW, FW.kp, gW⟩, ⟨_, _, ok_one FO GD bD FD.kp gD m5, bO, FO.kp, gO⟩, ⟨_, _, ok_First FF T, bF, FF.kp, gF⟩, ⟨_, _, ok_Called FL T, bL, FL.kp, gL⟩,
    ⟨_, _, ok_Bare FB T, bB, FB.kp, gB⟩, ⟨_, _, GC, bC, FC.kp, gC⟩, ⟨_, _, GI, bI, FI.kp, gI⟩, ⟨_, _, ok_right FR T GC bC FC.kp gC GI bI FI.kp gI m4 m6, bR, FR.kp, gR⟩⟩ ⟨m7, m6, m5, m8, m9, m10, m11⟩
end L2.K01
set_option Elab.async false
set_option linter.all false
set_option maxRecDepth 100000
set_option maxHeartbeats 0
namespace L2.K01
open PySem PySem.Spec PyProof.Rows L2.EV
theorem run (w : World) : HandSHeadRun.RunEq R (PySem.W.view R.prog [45]) hk ob 9000 loose w := by
  intro os
  kernel_rfl
end L2.K01
set_option Elab.async false
set_option linter.all false
set_option maxRecDepth 100000
set_option maxHeartbeats 0
open PySem PySem.W PySem.Calls PyProof.Rows
theorem PySem.Challenge.cw_withinbooks_k01_errors_made_holds : PySem.Challenge.rw_withinbooks_k01_errors_made.Holds := by
  w_on; o_law
  refine HandSHeadRun.head_any (r := L2.K01.R) (q := view L2.K01.R.prog [45]) (H := L2.K01.hk) (ob := L2.K01.ob) (M := 9000) (loose := L2.K01.loose) (d := HandSHeadRun.topDef L2.K01.R.prog 45) (kwd := []) L2.K01.ob_eq
    (by kernel_rfl) (fun s => by kernel_rfl) L2.K01.run (by kernel_rfl) (by kernel_rfl) (by kernel_rfl) (by rfl) (by first | assumption | decide +kernel) (by decide +kernel) ⟨rfl, rfl, rfl, rfl, rfl, by decide +kernel⟩ ?hw ?hc
  case hw => w_witness2
  case hc =>
    refine L2.EV.walk_ofG (l := PySem.Challenge.rw_withinbooks_k01_errors_made) (n := 63) (k := 4) (x := "_law_script") rfl (by decide) (by kernel_rfl) ⟨rfl, by decide, by decide⟩ ?F
    intro w mg fa h Y G hmg0
    obtain ⟨K, KX, c, m⟩ := Y
    have hmg : mg ("law" : PySem.Str) = some (.ref fa) := by
      have e : (HandSHeadRun.topDef L2.K01.R.prog 45).name = ("law" : PySem.Str) := by kernel_rfl
      rw [← e]
      exact hmg0
    obtain ⟨fd, hb, hF⟩ := L2.K01.facts (P := (PySem.Challenge.rw_withinbooks_k01_errors_made).prog) (w := w) KX G hmg c (L2.K01.more_ok m)
    exact ⟨K, fd, L2.K01.spLaw K, KX, hb, fun H a ns hl _ hS => ⟨a, ns, rfl, hS, hl, fun _ => rfl⟩, hF⟩
