import PyProof.Rows.All
import Wide.All
import OpenK.AllK
import Wide.FinOn
import KE.KExcIs
import HandS.ForMost
import HandS.ExcInit
import HandS.ExcValue
import HandS.IsInst
import HandS.Defaults
import HandS.ExcField
import PyProof.ReprRoads
import PyProof.StrLawsRepr
import PyProof.FitsInt
import HandS.Wide
import HandS.WideBits
import PyProof.ListStr
import HandS.Style
import HandS.More
import HandS.Zip
import HandS.Conv
import HandS.StrMore
import HandS.TupSets
import HandS.Strs
import HandS.SetFor
import HandS.SetKeys
import KE.SortData
import HandS.Deep
import HandS.Set
import HandS.MakeKw
import HandS.Head2
import HandS.HeadEnd
import HandS.HeadHook2
import HandS.TryMany
import HandS.Exc
import HandS.TupAny
import KE.KMinKey
import HandS.SortKw
import HandS.TupLe
import HandS.HeadHook3
import PySem.Challenge.RW_withinbooks_k57_whole_expressions_put_in
set_option Elab.async false
set_option linter.all false
set_option maxRecDepth 100000
set_option maxHeartbeats 4000000
namespace EV
open PySem PySem.W PySem.Calls PySem.HandSPX
/-- the class object of an own class of errors over ValueError's chain -/
structure Above (h : Heap) (C : Addr) : Prop where
  ex : ∃ (nm qn : Str) (N : Addr) (bs bm : List Value) (hd : Bool) (sn : List Str) (sub : List Value) (ab : Bool) (col : Option Bool) (dd : Option Addr) (k0 k1 k2 k3 k5 : Option Value),
    h.get? C = some (excClassObj nm qn C N bs bm hd sn sub ab col dd k0 k1 k2 k3 k5 "ValueError.__new__") ∧ ∀ T : String, bm.contains (.type T) = veTail.contains (.type T)
section
variable {M : Model} {prog : Program} {w : World} {A : Around} {E : Value → Shared → Prop} {R : Result → Shared → Prop}
variable {h : Heap} {g : Array GenState} {d : Drawn} {t : Nat} {os : OsState} {C fI : Addr} {us : List Value} {kw : List (Str × Value)}
abbrev two (h : Heap) (C : Addr) (us : List Value) : Heap := (h.push (W.kdv_tup us)).push (excO C h.objs.size)
theorem new_ok {Q : Unit → Shared → Prop} (c : Above h C) (hq : Q () ⟨h, g, d, t, os⟩) :
    wpAny M A (checkBuiltinCall "ValueError.__new__" ⟨.ref C :: us, kw⟩) Q E ⟨h, g, d, t, os⟩ := by
  obtain ⟨nm, qn, N, bs, bm, hd, sn, sub, ab, col, dd, k0, k1, k2, k3, k5, hC, hT⟩ := c.ex
  have F := F.excBase_ValueError
  have in_ : (Value.ref C :: bm).contains (.type "ValueError") = true := by
    rw [List.contains_cons, hT, F.hasB, Bool.or_true]
  have ns := F.noStar
  simp only [checkBuiltinCall, F.newKind, F.newSplit, F.newRow]
  repeat (first
    | refine wpAny_loadPart_at hC ?_
    | (refine wpAny_isSubtype_exc hC ?_; rw [in_])
    | refine wpAny_staticBase_exc hC ?_
    | refine wpAny_madeBy_exc hC ?_
    | simp only [bne_self_eq_false, Bool.false_eq_true, if_false]
    | wp_step)
  exact hq
theorem new_does (c : Above h C) (hu : us.length ≤ sizeLine) (hq : R (.ok (.ret (.ref (h.objs.size + 1)))) ⟨two h C us, g, d, t, os⟩) :
    codeAny (model prog w) A (.builtin "ValueError.__new__" ⟨.ref C :: us, kw⟩) R ⟨h, g, d, t, os⟩ := by
  obtain ⟨nm, qn, N, bs, bm, hd, sn, sub, ab, col, dd, k0, k1, k2, k3, k5, hC, hT⟩ := c.ex
  have F := F.excBase_ValueError
  have he := F.ends
  have cB : (Value.ref C :: bm).contains (.type "ValueError") = true := by
    rw [List.contains_cons, hT, F.hasB, Bool.or_true]
  have cA : (Value.ref C :: bm).contains (.type "AttributeError") = false := by
    rw [List.contains_cons, hT, F.noAttr]; rfl
  have cN : (Value.ref C :: bm).contains (.type "NameError") = false := by
    rw [List.contains_cons, hT, F.noName]; rfl
  refine codeAny_builtinAt F.entry ?_
  unfold Builtin.«BaseException.__new__»
  refine wpAt_bind ?_
  show wpAt _ _ _ (stack >>= _) _ _ _
  refine wpAt_bind (wpAt_stack fun p below => wpAt_of_wpAny ?_)
  wp_walk
  refine wpAt_of_wpAny ?_
  rw [F.owner]
  repeat (first
    | with_reducible refine wpAny_madeHere_exc F.canon hC ?_
    | with_reducible refine wpAny_loadPart_at hC ?_
    | (with_reducible refine wpAny_isSubtype_exc hC ?_; first | rw [cB] | rw [cA] | rw [cN])
    | wp_step)
  show R _ _
  rw [Heap.size_push]
  exact hq
theorem type_does {Q : Fin → Shared → Prop} (c : Above h C) (hi : W.Looks (model prog w) h (typeLookup (.ref C) "__init__") (some (.ref fI)))
    (hb : ∀ self, W.Looks (model prog w) h (bindSpecial (.ref fI) self) (.ref fI, [self])) (hu : us.length ≤ sizeLine)
    (hq : codeAny (model prog w) A (.call (.ref fI) ⟨.ref (h.objs.size + 1) :: us, kw⟩)
      (fun r s' => match r with
        | .ok (.ret v) => v = .none ∧ Q (.done (.ret (.ref (h.objs.size + 1)))) s'
        | .ok _ => False
        | .error e => E e s') ⟨two h C us, g, d, t, os⟩) :
    wpAny (model prog w) A (Builtin.«type.__call__» ⟨.ref C :: us, kw⟩) Q E ⟨h, g, d, t, os⟩ := by
  obtain ⟨nm, qn, N, bs, bm, hd, sn, sub, ab, col, dd, k0, k1, k2, k3, k5, hC, hT⟩ := id c.ex
  have F := F.excBase_ValueError
  repeat (first
    | with_reducible refine wpAny_loadPart_at hC ?_
    | with_reducible refine wpAny_madeBy_exc hC ?_
    | wp_step)
  refine codeAny_call_builtin_code (Code.quiet_builtin _ F.quiet) (new_ok c ?_)
  refine new_does c hu ?_
  show wpAny _ _ _ _ _ _
  have k : ∀ b o, h.get? b = some o → (two h C us).get? b = some o := fun b o e => Heap.get?_push_of_some _ (Heap.get?_push_of_some _ e)
  have hC1 := k _ _ hC
  have hget : (two h C us).get? (h.objs.size + 1) = some (excO C h.objs.size) := by heap_get
  have cC : (Value.ref C :: bm).contains (.ref C) = true := by simp
  have i1 := hi.keeps k
  have b1 := (hb (.ref (h.objs.size + 1))).keeps k
  unfold isInstance
  repeat (first
    | with_reducible refine wpAny_loadPart_at hget ?_
    | (with_reducible refine wpAny_isSubtype_exc hC1 ?_; rw [cC])
    | wp_step)
  show wpAny _ _ (typeLookup (.ref C) _) _ _ _
  refine i1.at ?_
  refine wpAny_holding (wpAny_bind (b1.at ?_))
  refine wpAny_bind (wpAny_call (codeAny_mono hq fun r s' z => ?_))
  rcases r with e | (v | _ | _ | _) <;> first | exact z | exact z.elim | skip
  obtain ⟨rfl, z⟩ := z
  first
    | exact wpAny_pure (wpAny_pure z)
    | (wp_walk; exact z)
theorem call_does (c : Above h C) (hi : W.Looks (model prog w) h (typeLookup (.ref C) "__init__") (some (.ref fI)))
    (hb : ∀ self, W.Looks (model prog w) h (bindSpecial (.ref fI) self) (.ref fI, [self])) (hu : us.length ≤ sizeLine)
    (hq : codeAny (model prog w) (A.under (.builtin "type.__call__" ⟨.ref C :: us, kw⟩)) (.call (.ref fI) ⟨.ref (h.objs.size + 1) :: us, kw⟩)
      (W.InitBack (h.objs.size + 1) R) ⟨two h C us, g, d, t, os⟩) :
    codeAny (model prog w) A (.call (.ref C) ⟨us, kw⟩) R ⟨h, g, d, t, os⟩ := by
  obtain ⟨nm, qn, N, bs, bm, hd, sn, sub, ab, col, dd, k0, k1, k2, k3, k5, hC, hT⟩ := id c.ex
  have f1 := tc_lookup
  have f2 := tc_bind (.ref C)
  have hTy : (⟨h, g, d, t, os⟩ : Shared).TypeIs (.ref C) "type" := ⟨_, hC, rfl⟩
  refine codeAny_of_tree ?_
  show wpAny _ _ (callAny (.ref C) _) _ _ _
  repeat (any_goals (first | assumption | with_reducible refine wpAny_loadPart_at hC ?_ | wp_step))
  refine ⟨rfl, ?_⟩
  refine codeAny_call_builtin_at (Code.quiet_builtin _ (by decide +kernel)) entry_typeCall (wpAny_check_type_call_sub hC ?_)
  refine type_does c hi hb hu ?_
  refine codeAny_mono hq fun r s' z => ?_
  rcases r with e | (v | _ | _ | _) <;> exact z
end
end EV
set_option Elab.async false
set_option linter.all false
set_option maxRecDepth 100000
set_option maxHeartbeats 4000000
namespace L2.EV
open PySem PySem.Spec PyProof.Rows
/-- at a: an error of the class at C, made of v -/
def ErrO (H : Hp) (a C : Addr) (v : V) : Prop := ∃ dx, H a = some (exo a C (some dx)) ∧ H dx = some (exd dx [("value", v)])
theorem ErrO.same {H H' : Hp} {a C : Addr} {v : V} (e : ErrO H a C v) (s : Same H H') : ErrO H' a C v := by
  obtain ⟨dx, h1, h2⟩ := e
  exact ⟨dx, s _ _ h1, s _ _ h2⟩
/-- what __init__ promises -/
def spInit (C : Addr) : Sp := fun vs H Q _ => ∃ (a : Addr) (v : V), vs = [.ref a, v] ∧ H a = some (exo a C none) ∧
  ∀ dx, H dx = none → dx ≠ a → Q .non (upd (upd H dx (exd dx [("value", v)])) a (exo a C (some dx)))
/-- what the written part says of such a class -/
structure Err (K : PySem.W.Frag) (C fI : Addr) : Prop where
  ox : OexC K C
  noV : PySem.W.findIn K (.ref C) "value" = some none
  iC : PySem.W.findIn K (.ref C) "__init__" = some (some (.ref fI))
  tI : PySem.W.typeIn K (.ref fI) = some (.type "function")
  xf : XfC K C
theorem Err.up {K : PySem.W.Frag} {C fI : Addr} (e : Err K C fI) {h : Heap} (X : K.In h) : _root_.EV.Above h C := by
  obtain ⟨nm, q, N, bs, bm, sn, sub, ab, col, dd, k0, k1, k2, k3, k5, hC, hbm⟩ := e.ox.cls
  exact ⟨nm, q, N, bs, bm, true, sn, sub, ab, col, dd, k0, k1, k2, k3, k5, X _ _ hC, fun T => PySem.HandSPX.refsVE_contains T bm hbm⟩
section
variable {X : Cx} {pins : List (Addr × Obj)} {σ : St} {H H1 : Hp} {s s1 : Shared} {Q : VK} {C fI : Addr} {fd : FuncData} {k : Nat} {us ws : List Value} {kw : List (Str × Value)} {v : V}
theorem run_mkV (e : Err X.K C fI) (F1 : FnOk X.prog X.w X.K X.mg X.base CX0 k fI fd ["self", "value"] (spInit C)) (hr : Room (k + 1) X.A)
    (I1 : Inv X pins σ H1 s1) (hl : us.length ≤ sizeLine) (hb : ∀ (s : Shared) (self : Value), X.K.In s.heap → BindsTo s fd ⟨self :: us, kw⟩ ((["self", "value"] : List Str).zip (self :: ws)))
    (rw : Vals [v] ws) (q : ∀ a H', Same H1 H' → H1 a = none → ErrO H' a C v → Q (.ref a) H') :
    wpAny (model X.prog X.w) X.A (call (.ref C) us kw) (EP X pins σ Q) X.xe s1 := by
  obtain ⟨hp, g, dr, tk, os⟩ := s1
  have hsz : hp.objs.size ≤ hp.objs.size + 1 := Nat.le_succ _
  have hn : H1 (hp.objs.size + 1) = none := I1.hok.fresh hsz
  have kk : ∀ b o, hp.get? b = some o → (_root_.EV.two hp C us).get? b = some o := fun b o e => Heap.get?_push_of_some _ (Heap.get?_push_of_some _ e)
  have hget : (_root_.EV.two hp C us).get? (hp.objs.size + 1) = some (PySem.HandSPX.excO C hp.objs.size) := by heap_get
  have I2 : Inv X pins σ (upd H1 (hp.objs.size + 1) (exo (hp.objs.size + 1) C none)) ⟨_root_.EV.two hp C us, g, dr, tk, os⟩ :=
    I1.laid (t' := tk) (a := hp.objs.size + 1) (o := exo (hp.objs.size + 1) C none) (h' := _root_.EV.two hp C us) kk hsz (exo_ok hget)
  have r2 : Vals ([V.ref (hp.objs.size + 1), v]) (Value.ref (hp.objs.size + 1) :: ws) := .cons rfl rw
  refine wpAny_call (_root_.EV.call_does (e.up I1.kIn) (PySem.W.looks_findIn I1.kIn e.iC) (fun self => PySem.W.bind_fn I1.kIn self e.tI) hl
    (codeAny_mono (F1.run _ X.stack _ _ ⟨Value.ref (hp.objs.size + 1) :: us, kw⟩ (Value.ref (hp.objs.size + 1) :: ws) _ (fun u H2 => u = .non ∧ Q (.ref (hp.objs.size + 1)) H2) (fun _ _ _ => False)
      (hr.make C us kw) (I2.env0.make C us kw) (hb _ _ I2.kIn) r2 ⟨hp.objs.size + 1, v, rfl, upd_same, fun dx hd ne => ⟨rfl, q _ _ (fun b o e => ?_) hn ⟨dx, upd_same, ?_⟩⟩⟩) fun r s' hq' => ?_))
  · have hd1 : H1 dx = none := by
      rw [upd_ne ne] at hd
      exact hd
    rw [upd_ne (ne_of_none e hn), upd_ne (ne_of_none e hd1), upd_ne (ne_of_none e hn)]
    exact e
  · rw [upd_ne ne, upd_same]
  · cases r with
    | error er => exact hq'.elim
    | ok fl =>
      cases fl with
      | ret u =>
        obtain ⟨y, H', I3, rv, ev, q3⟩ := I2.after hq'
        subst ev
        exact ⟨rv, ⟨V.ref (hp.objs.size + 1), H', I3, rfl, q3⟩⟩
      | next => exact hq'.elim
      | brk => exact hq'.elim
      | cont => exact hq'.elim
end
/-- all that is asked of the class of the name x -/
structure Ck (P : Program) (w : World) (K : PySem.W.Frag) (mg : Str → Option Value) (base : Heap) (x : Str) (C : Addr) : Prop where
  mgx : mg x = some (.ref C)
  ex : ∃ (fI : Addr) (fd : FuncData), Err K C fI ∧ FnOk P w K mg base CX0 1 fI fd ["self", "value"] (spInit C) ∧
    (∀ (s : Shared) (self u : Value), K.In s.heap → BindsTo s fd ⟨[self, u], []⟩ ((["self", "value"] : List Str).zip [self, u])) ∧
    (∀ (s : Shared) (self : Value), K.In s.heap → BindsTo s fd ⟨[self], []⟩ ((["self", "value"] : List Str).zip [self, .none])) ∧
    (∀ (s : Shared) (self u : Value), K.In s.heap → BindsTo s fd ⟨[self], [("value", u)]⟩ ((["self", "value"] : List Str).zip [self, u]))
/-- C(..): a new error, made of v -/
def tMkV (C : Addr) (t : TE) : TE := fun σ H Q => t σ H fun v H1 => ∀ a H', Same H1 H' → H1 a = none → ErrO H' a C v → Q (.ref a) H'
section
variable {X : Cx} {C : Addr} {x : Str} {p pos kpos : Pos} {e : Expr} {te : TE}
theorem pe_mkV (c : Ck X.prog X.w X.K X.mg X.base x C) (hr : Room 2 X.A) (he : PE X e te) (hg : Gl X x := by rfl) (hdb : (x == ("__debug__" : Str)) = false := by decide)
    (hs : starEach [e] X.env = (false, eval e X.env) :: starEach [] X.env := by rfl) : PE X (.Call (.Name x p) [e] [] pos) (tMkV C te) := by
  obtain ⟨fI, fd, E, F, b1, b0, bk⟩ := c.ex
  refine ⟨fun pins s σ H Q I h => ?_⟩
  refine wpAny_Call_Name_kw (ld_glob I hg c.mgx ?_ hdb)
  refine PySem.W.callWith_K (h₀ := X.base) I.ok.mod.kin E.ox.kC ?_ hs (by rfl)
  rw [hs]
  show wpAny _ _ (spliced ((false, eval e X.env) :: backTo pos (starEach [] X.env))) _ _ s
  refine Calls.spliced_cons (thn (he.run pins s σ H _ I h) fun u s1 ⟨v, H1, I1, r1, q1⟩ => ?_)
  refine Calls.spliced_nil ⟨I1.kIn, ?_⟩
  exact run_mkV (us := [u]) (ws := [u]) E F hr I1 (by show 1 ≤ sizeLine; rw [sizeLine_eq]; omega) (fun s self X => b1 s self u X) (.cons r1 .nil) q1
theorem pe_mkV0 (c : Ck X.prog X.w X.K X.mg X.base x C) (hr : Room 2 X.A) (hg : Gl X x := by rfl) (hdb : (x == ("__debug__" : Str)) = false := by decide) :
    PE X (.Call (.Name x p) [] [] pos) (tMkV C (tC .non)) := by
  obtain ⟨fI, fd, E, F, b1, b0, bk⟩ := c.ex
  refine ⟨fun pins s σ H Q I h => ?_⟩
  refine wpAny_Call_Name_kw (ld_glob I hg c.mgx ?_ hdb)
  refine PySem.W.callWith_K0 I.kIn E.ox.kC ?_
  exact run_mkV (us := []) (ws := [.none]) (v := .non) E F hr I (Nat.zero_le _) (fun s self X => b0 s self X) (.cons rfl .nil) h
theorem pe_mkVK (c : Ck X.prog X.w X.K X.mg X.base x C) (hr : Room 2 X.A) (he : PE X e te) (hg : Gl X x := by rfl) (hdb : (x == ("__debug__" : Str)) = false := by decide)
    (hall : (backToKw pos (keywordEach [⟨some "value", e, kpos⟩] X.env)).all (·.1.isSome) = true := by rfl)
    (hks : (backToKw pos (keywordEach [⟨some "value", e, kpos⟩] X.env)).filterMap (·.1) = (["value"] : List Str) := by rfl)
    (hpl : ((backTo pos (starEach [] X.env)).any (·.1) || (backToKw pos (keywordEach [⟨some "value", e, kpos⟩] X.env)).any (·.1.isNone)) = false := by rfl) :
    PE X (.Call (.Name x p) [] [⟨some "value", e, kpos⟩] pos) (tMkV C te) := by
  obtain ⟨fI, fd, E, F, b1, b0, bk⟩ := c.ex
  refine ⟨fun pins s σ H Q I h => ?_⟩
  refine wpAny_Call_Name_kw (ld_glob I hg c.mgx ?_ hdb)
  refine PySem.W.callWith_KW0 (h₀ := X.base) I.ok.mod.kin E.ox.kC hall ?_ hpl
  refine thn ((pk_cons he pk_nil).run pos pins s σ H (fun vs H1 => match vs with
    | [v] => ∀ a H', Same H1 H' → H1 a = none → ErrO H' a C v → Q (.ref a) H'
    | _ => False) I h) fun us s2 ⟨zs, H2, I2, rz, q2⟩ => ⟨I2.kIn, ?_⟩
  cases rz with
  | nil => exact q2.elim
  | cons r1 r2 =>
    cases r2 with
    | nil =>
      rw [hks]
      exact run_mkV (us := []) (ws := [_]) E F hr I2 (Nat.zero_le _) (fun s self X => bk s self _ X) (.cons r1 .nil) q2
    | cons _ _ => exact q2.elim
end
end L2.EV
set_option Elab.async false
set_option linter.all false
set_option maxRecDepth 100000
set_option maxHeartbeats 4000000
namespace L2.EV
open PySem PySem.Spec PyProof.Rows
/-! ### the field of an error -/
def tValV (K : PySem.W.Frag) (te : TE) : TE := fun σ H Q => te σ H fun x H1 => ∃ (a C fI : Addr) (v : V), x = .ref a ∧ Err K C fI ∧ ErrO H1 a C v ∧ Q v H1
theorem pe_valV {X : Cx} {e : Expr} {te : TE} {pos : Pos} (he : PE X e te) (hb : attributeBase e "value" X.env (eval e X.env) = eval e X.env := by rfl) :
    PE X (.Attribute e "value" pos) (tValV X.K te) := by
  refine ⟨fun pins s σ H Q I h => ?_⟩
  refine attr_of hb (thn (he.run pins s σ H _ I h) fun u s1 hh => ?_)
  obtain ⟨x, H1, I1, rx, a, C, fI, v, ex, T, ⟨dx, ha, hd⟩, q⟩ := hh
  subst ex
  obtain rfl : u = Value.ref a := rx
  obtain ⟨t1, ho⟩ := exo_at I1.hok ha
  obtain ⟨mA, hns, hr⟩ := exd_at I1.hok hd
  obtain ⟨od, hod, hl⟩ := lookIn_ns hns
  have l : List.lookup ("value" : Str) [(("value" : Str), v)] = some v := by simp [List.lookup]
  obtain ⟨y, hy, ry⟩ := RelO.some_of (v := v) (o := mA "value") (by rw [← l]; exact hr "value")
  have J : PySem.W.InstAt s1.heap a { cls := .ref C, dict := some dx, data := .fields #[.ref t1, .none, .none, .none, .bool false, .none] } C (some od) := ⟨ho, rfl, rfl, hod⟩
  exact HandSPX.exc_get I1.kIn J T.xf.ga T.xf.gg T.xf.exC (PySem.W.findObj_own T.xf.hdC T.noV rfl (by rw [hl, hy])) (handed_of ry) ⟨v, H1, I1.tok _, ry, q⟩
/-! ### isinstance of an error -/
structure Asks (K : PySem.W.Frag) (C : Addr) : Prop where
  hcl : (PySem.W.clsIn K C).isSome = true
  hga : PySem.W.findIn K (.ref C) "__getattribute__" = some (some (.builtin "BaseException.__getattribute__"))
  hgt : PySem.W.findIn K (.ref C) "__getattr__" = some none
  hsub : PySem.W.subIn K (.ref C) (.type "BaseException") = some true
  ha : PySem.W.findIn K (.ref C) "__class__" = some (some (.builtin "object.__class__"))
  hn : PySem.W.specialIn K (.builtin "object.__class__") "__get__" = some (some (.builtin "getset_descriptor.__get__"))
  ht : PySem.W.takesIn K (.builtin "object.__class__") = some true
  hm : PySem.W.mroIn K C (.type "object") = some true
/-- at a: some error of the class at C -/
def IsErr (H : Hp) (a C : Addr) : Prop := (∃ v, ErrO H a C v) ∨ H a = some (ExO (.ref C) a)
def rIsV (K : PySem.W.Frag) : List V → Hp → VK → Prop := fun xs H Q => ∃ (a C : Addr) (c : V) (cv : Value) (b : Bool), xs = [.ref a, c] ∧ IsErr H a C ∧ ClsV c cv ∧ Asks K C ∧ PySem.W.kitOne K (.ref C) cv = some b ∧ Q (.bl b) H
theorem call_isV {X : Cx} : CallR X (.builtin "isinstance") (rIsV X.K) := by
  intro pins s σ H xs us Q I r h
  obtain ⟨a, C, c, cv, b, rfl, hE, hc, T, e, q⟩ := h
  obtain ⟨u1, u2, rfl, r1, r2⟩ := vals2 r
  have e2 := hc.eq r2
  subst e2
  cases (show u1 = Value.ref a from r1)
  rcases hE with ⟨v, dx, ha, hd⟩ | ha
  · obtain ⟨t1, ho⟩ := exo_at I.hok ha
    obtain ⟨mA, hns, hr⟩ := exd_at I.hok hd
    obtain ⟨od, hod, hl⟩ := lookIn_ns hns
    have J : PySem.W.InstAt s.heap a { cls := .ref C, dict := some dx, data := .fields #[.ref t1, .none, .none, .none, .bool false, .none] } C (some od) := ⟨ho, rfl, rfl, hod⟩
    exact PySem.W.kia_one (PySem.W.kitx_exc T.hcl T.hga T.hgt T.hsub T.ha T.hn T.ht T.hm) I.kIn J e (fun z => nomatch z) fun tk => ⟨.bl b, H, I.tok tk, rfl, q⟩
  · obtain ⟨⟨oe, vs, ho, hz, hv, _⟩, _, _⟩ := I.hok a _ ha
    have J : PySem.W.InstAt s.heap a oe C none := by
      obtain ⟨oc, od, oda, osl⟩ := oe
      obtain ⟨h1, h2⟩ := hz
      dsimp only at h1 h2 hv
      subst h1 h2 hv
      exact ⟨ho, rfl, rfl, trivial⟩
    exact PySem.W.kia_one (PySem.W.kitx_exc T.hcl T.hga T.hgt T.hsub T.ha T.hn T.ht T.hm) I.kIn J e (fun z => nomatch z) fun tk => ⟨.bl b, H, I.tok tk, rfl, q⟩
/-! ### C(): an own class of errors without __init__, as a value -/
theorem pe_mkN {X : Cx} {C : Addr} {bmB : List Value} {B newId initId : String} {x : Str} {p pos : Pos} (F : ExcBaseFacts B newId initId bmB) (q : PySem.W.excIn X.K C bmB newId = true) (gC : X.mg x = some (.ref C))
    (kC : PySem.W.keepIn X.K (.ref C) = true) (hg : Gl X x := by rfl) (hdb : (x == ("__debug__" : Str)) = false := by decide) :
    PE X (.Call (.Name x p) [] [] pos) (fun _ H Q => ∀ a, H a = none → Q (.ref a) (upd H a (ExO (.ref C) a))) := by
  refine ⟨fun pins s σ H Q I h => ?_⟩
  refine wpAny_Call_Name_kw (ld_glob I hg gC ?_ hdb)
  refine PySem.W.callWith_K0 I.kIn kC ?_
  show wpAny _ _ (call (.ref C) []) _ _ _
  obtain ⟨bm, N, nm, qn, bs, hdct, sn, sub, ab, col, dd, k0, k1, k2, k3, k5, mN, hC, hN, hni, T⟩ := exc_obj I.kIn q
  refine wpAny_call_exc_subT F T hC hN hni (fun h' a hm => ?_) (by show 0 ≤ sizeLine; omega)
  have hn : H a = none := I.hok.gone hm.new
  obtain ⟨t, ht, _, _⟩ := hm.there
  exact ⟨.ref a, upd H a (ExO (.ref C) a), I.laidN hm.keeps hm.new hn (exO_ok ht ⟨rfl, rfl⟩ rfl rfl rfl (show 4 < 6 by decide)), rfl, h a hn⟩
end L2.EV
set_option Elab.async false
set_option linter.all false
set_option maxRecDepth 100000
set_option maxHeartbeats 4000000
namespace L2.EV
open PySem PySem.Spec PyProof.Rows
/-! ### data that is tracked -/
def keyD : Key → PyData
  | .inl i => .int i
  | .inr x => .str x
mutual
inductive DpX (H : Hp) : V → PyData → Prop
  | non : DpX H .non .none
  | bl (b : Bool) : DpX H (.bl b) (.bool b)
  | int (i : Int) : DpX H (.int i) (.int i)
  | str (x : Str) : DpX H (.str x) (.str x)
  | lst {a : Addr} {xs : List V} {ds : List PyData} : H a = some (.lst xs) → DpXs H xs ds → DpX H (.ref a) (.list ds)
  | tup {a : Addr} {xs : List V} {ds : List PyData} : H a = some (.tup xs) → DpXs H xs ds → DpX H (.ref a) (.tuple ds)
  | dct {a : Addr} {kvs : List (Key × V)} {ds : List PyData} : H a = some (.dK kvs) → DpXs H (kvs.map (·.2)) ds → DpX H (.ref a) (.dict ((kvs.map fun p => keyD p.1).zip ds))
inductive DpXs (H : Hp) : List V → List PyData → Prop
  | nil : DpXs H [] []
  | cons {v : V} {vs : List V} {d : PyData} {ds : List PyData} : DpX H v d → DpXs H vs ds → DpXs H (v :: vs) (d :: ds)
end
theorem DpXs.length {H : Hp} {vs : List V} {ds : List PyData} (h : DpXs H vs ds) : ds.length = vs.length := by
  induction vs generalizing ds with
  | nil => cases h; rfl
  | cons v vs ih => cases h with | cons _ t => exact congrArg Nat.succ (ih t)
mutual
theorem DpX.same {H H' : Hp} (s : Same H H') : ∀ {v : V} {d : PyData}, DpX H v d → DpX H' v d
  | _, _, .non => .non
  | _, _, .bl b => .bl b
  | _, _, .int i => .int i
  | _, _, .str x => .str x
  | _, _, .lst h t => .lst (s _ _ h) (DpXs.same s t)
  | _, _, .tup h t => .tup (s _ _ h) (DpXs.same s t)
  | _, _, .dct h t => .dct (s _ _ h) (DpXs.same s t)
theorem DpXs.same {H H' : Hp} (s : Same H H') : ∀ {vs : List V} {ds : List PyData}, DpXs H vs ds → DpXs H' vs ds
  | _, _, .nil => .nil
  | _, _, .cons h t => .cons (DpX.same s h) (DpXs.same s t)
end
/-- the keys of a dict, read -/
theorem keys_read {P : Program} {w : World} {h : Heap} : ∀ {es : List DictEntry} {vs : List (Key × Value)}, Pairs (mixKind P w) es vs →
    ∃ as : List Addr, ReadsAll h (es.map (·.key)) (vs.map fun p => keyD p.1) as ∧ as = []
  | _, _, .nil => ⟨[], .nil, rfl⟩
  | _, _, .cons (kv := (k, v)) hk he t => by
    obtain ⟨as, r, e⟩ := keys_read (h := h) t
    rcases keyIs_shape (show keyIs k _ = true from hk) with ⟨i, tk, rfl, ek⟩ | ⟨x, tk, rfl, ek⟩
    · refine ⟨[] ++ as, ?_, by rw [e]; rfl⟩
      rw [List.map_cons, ek]
      exact .cons (.int i tk) r
    · refine ⟨[] ++ as, ?_, by rw [e]; rfl⟩
      rw [List.map_cons, ek]
      exact .cons (.str x tk) r
theorem vals_of_pairs {P : Program} {w : World} : ∀ {es : List DictEntry} {vs : List (Key × Value)}, Pairs (mixKind P w) es vs → es.map (·.val) = vs.map (·.2)
  | _, _, .nil => rfl
  | _, _, .cons _ he t => by
    rw [List.map_cons, List.map_cons, he, vals_of_pairs t]
theorem kv_keys : ∀ {kvs : List (Key × V)} {vs : List (Key × Value)}, KV kvs vs → (vs.map fun p => keyD p.1) = kvs.map fun p => keyD p.1
  | _, _, .nil => rfl
  | _, _, .cons h t => by
    rw [List.map_cons, List.map_cons, h.1, kv_keys t]
theorem kv_vals : ∀ {kvs : List (Key × V)} {vs : List (Key × Value)}, KV kvs vs → Vals (kvs.map (·.2)) (vs.map (·.2))
  | _, _, .nil => .nil
  | _, _, .cons h t => .cons h.2 (kv_vals t)
theorem zip_fst {α β : Type} : ∀ {xs : List α} {ys : List β}, ys.length = xs.length → (xs.zip ys).map (·.1) = xs
  | [], [], _ => rfl
  | x :: xs, y :: ys, h => by rw [List.zip_cons_cons, List.map_cons, zip_fst (Nat.succ.inj h)]
theorem zip_snd {α β : Type} : ∀ {xs : List α} {ys : List β}, ys.length = xs.length → (xs.zip ys).map (·.2) = ys
  | [], [], _ => rfl
  | x :: xs, y :: ys, h => by rw [List.zip_cons_cons, List.map_cons, zip_snd (Nat.succ.inj h)]
section
variable {X : Cx} {pins : List (Addr × Obj)} {σ : St} {H : Hp} {s : Shared}
mutual
theorem DpX.reads (I : Inv X pins σ H s) : ∀ {v : V} {d : PyData} (u : Value), DpX H v d → RelV v u → ∃ as, Reads s.heap u d as ∧ ∀ b ∈ as, H b ≠ none
  | _, _, _, .non, r => by cases r; exact ⟨_, .none, fun _ z => nomatch z⟩
  | _, _, _, .bl b, r => by cases r; exact ⟨_, .bool b, fun _ z => nomatch z⟩
  | _, _, _, .int i, r => by obtain ⟨t, rfl⟩ := r; exact ⟨_, .int i t, fun _ z => nomatch z⟩
  | _, _, _, .str x, r => by obtain ⟨t, rfl⟩ := r; exact ⟨_, .str x t, fun _ z => nomatch z⟩
  | _, _, _, .lst (a := a) (xs := xs) h t, r => by
    cases r
    obtain ⟨_, its, n, rv, e⟩ := (show ObjOk X.prog X.w H s.heap a (.lst xs) from I.hok a _ h)
    obtain ⟨as, q, k⟩ := DpXs.reads I its t rv
    refine ⟨a :: as, .list e rfl rfl q, fun b hb => ?_⟩
    rcases List.mem_cons.mp hb with e | hb
    · rw [e, h]; exact fun z => nomatch z
    · exact k b hb
  | _, _, _, .tup (a := a) (xs := xs) h t, r => by
    cases r
    obtain ⟨_, its, rv, o, e1, e2, n, e3⟩ := (show ObjOk X.prog X.w H s.heap a (.tup xs) from I.hok a _ h)
    obtain ⟨as, q, k⟩ := DpXs.reads I its t rv
    exact ⟨as, .tuple e1 e2 e3 q, k⟩
  | _, _, _, .dct (a := a) (kvs := kvs) (ds := ds) h t, r => by
    cases r
    obtain ⟨_, _, vs, rk, o, es, ep, e1, e2, e3, _, pr, _⟩ := (show ObjOk X.prog X.w H s.heap a (.dK kvs) from I.hok a _ h)
    obtain ⟨ks, q1, ek⟩ := keys_read (h := s.heap) pr
    obtain ⟨as, q2, k⟩ := DpXs.reads I _ t (kv_vals rk)
    have hl : ds.length = (kvs.map fun p => keyD p.1).length := by rw [t.length, List.length_map, List.length_map]
    refine ⟨a :: ks ++ as, .dict e1 e2.1 e3 (by rw [zip_fst hl, ← kv_keys rk]; exact q1) (by rw [zip_snd hl, vals_of_pairs pr]; exact q2), fun b hb => ?_⟩
    subst ek
    rcases List.mem_cons.mp (show b ∈ a :: as from hb) with e | hb
    · rw [e, h]; exact fun z => nomatch z
    · exact k b hb
theorem DpXs.reads (I : Inv X pins σ H s) : ∀ {vs : List V} {ds : List PyData} (us : List Value), DpXs H vs ds → Vals vs us → ∃ as, ReadsAll s.heap us ds as ∧ ∀ b ∈ as, H b ≠ none
  | _, _, _, .nil, r => by cases r; exact ⟨_, .nil, fun _ z => nomatch z⟩
  | _, _, _, .cons h t, r => by
    cases r with
    | cons r1 r2 =>
      obtain ⟨as, q1, k1⟩ := DpX.reads I _ h r1
      obtain ⟨bs, q2, k2⟩ := DpXs.reads I _ t r2
      exact ⟨as ++ bs, .cons q1 q2, fun b hb => (List.mem_append.mp hb).elim (k1 b) (k2 b)⟩
end
end
/-! ### repr -/
def rRepr : List V → Hp → VK → Prop := fun xs H Q => ∃ (x : V) (d : PyData), xs = [x] ∧ DpX H x d ∧ d.showable = true ∧ d.shown.length ≤ sizeLine ∧ d.depth ≤ 60 ∧ Q (.str d.shown) H
theorem call_repr {X : Cx} (hg : X.A.guards = some []) (hu : X.A.units + 64 < cLine) (hs : (X.K.lookup sysModules).isSome = true) : CallR X (.builtin "repr") rRepr := by
  intro pins s σ H xs us Q I r h
  obtain ⟨x, d, rfl, D, sh, hl, hd, q⟩ := h
  cases r with
  | cons r1 r2 =>
    cases r2
    have no : H sysModules = none := by
      obtain ⟨o, e⟩ := Option.isSome_iff_exists.mp hs
      exact (I.bs sysModules o (I.ok.mod.kin _ _ e)).2
    obtain ⟨as, rd, k⟩ := D.reads I _ r1
    have hsm : d.hasDict = true → sysModules ∉ as := fun _ z => k _ z no
    show wpAny _ _ (call (.builtin "repr") [_]) _ _ _
    cases D with
    | non => cases r1; exact PySem.P.repr_of_none ⟨.str _, H, I.tok _, ⟨_, rfl⟩, q⟩
    | bl b =>
      cases r1
      exact PySem.P.repr_of_bool ⟨.str _, H, I.tok _, ⟨_, rfl⟩, q⟩
    | int i =>
      obtain ⟨t, rfl⟩ := r1
      exact PySem.P.repr_of_int (by simpa [PyData.showable] using sh) ⟨.str _, H, I.tok _, ⟨_, rfl⟩, q⟩
    | str y =>
      obtain ⟨t, rfl⟩ := r1
      exact PySem.P.repr_of_str ⟨.str _, H, I.tok _, ⟨_, rfl⟩, q⟩ hl
    | lst h t =>
      cases r1
      exact repr_of_reads' rd sh hsm hg (by omega) (fun _ _ e => e) (fun h' u tk kp => ⟨.str _, H, I.kept kp, ⟨_, rfl⟩, q⟩) hl
    | tup h t =>
      cases r1
      exact repr_of_reads' rd sh hsm hg (by omega) (fun _ _ e => e) (fun h' u tk kp => ⟨.str _, H, I.kept kp, ⟨_, rfl⟩, q⟩) hl
    | dct h t =>
      cases r1
      exact repr_of_reads' rd sh hsm hg (by omega) (fun _ _ e => e) (fun h' u tk kp => ⟨.str _, H, I.kept kp, ⟨_, rfl⟩, q⟩) hl
end L2.EV
set_option Elab.async false
set_option linter.all false
set_option maxRecDepth 100000
set_option maxHeartbeats 4000000
namespace L2.EV
open PySem PySem.Spec PyProof.Rows
/-! ### how long a shown thing is at most -/
theorem len_app (a b : Str) : (a ++ b).length = a.length + b.length := PySem.Str.length_append a b
theorem list_le : ∀ ts : List Str, (listText ts).length ≤ piled ts + 2
  | [] => by decide +kernel
  | t :: r => by
    unfold listText
    show ((textFrom 1 (("[" : Str) ++ (if 0 > 0 then ", " else "" : String) ++ t) r) ++ ("]" : Str)).length ≤ _
    rw [len_app, textFrom_length_pos _ _ _ (by omega), len_app, len_app, piled_cons]
    have e1 : ("[" : Str).length = 1 := rfl
    have e2 : ((if 0 > 0 then ", " else "" : String) : Str).length = 0 := rfl
    have e3 : ("]" : Str).length = 1 := rfl
    omega
theorem join_le (ts : List Str) : (Str.join ", " ts).length ≤ piled ts := by
  by_cases h : ts = []
  · subst h; decide +kernel
  · have := join_length_add ts h
    omega
theorem tuple_le (ts : List Str) : (tupleText ts).length ≤ piled ts + 3 := by
  unfold tupleText
  rw [len_app, len_app]
  have e1 : ("(" : Str).length = 1 := rfl
  have e2 : ((if ts.length == 1 then ",)" else ")" : String) : Str).length ≤ 2 := by split <;> decide +kernel
  have := join_le ts
  omega
theorem dict_le (ts : List Str) : (dictText ts).length ≤ piled ts + 2 := by
  unfold dictText
  rw [len_app, len_app]
  have e1 : ("{" : Str).length = 1 := rfl
  have e2 : ("}" : Str).length = 1 := rfl
  have := join_le ts
  omega
/-- codes that repr knows -/
def Codes (x : Str) : Prop := ∀ c ∈ x.cps.toList, c < 16 ^ 8
theorem str_le {x : Str} (h : Codes x) : (PyData.str x).shown.length ≤ 10 * x.length + 2 := by
  show (reprText x).length ≤ _
  exact PySem.StrLaws.reprText_len x h

/-! ### a def's promise where no repr is under way -/
structure FnG (P : Program) (w : World) (K : PySem.W.Frag) (mg : Str → Option Value) (base : Heap) (k : Nat) (f : Addr) (fd : FuncData) (ps : List Str) (sp : Sp) : Prop where
  len : ∀ vs H Q E, sp vs H Q E → vs.length = ps.length
  run : ∀ (A : Around) (outer : List Env) (s : Shared) (H : Hp) (args : Args) (us : List Value) (vs : List V) (Q : VK) (E : XK),
    A.guards = some [] → Room k A → Env0 P w K mg base A outer s H → BindsTo s fd args (ps.zip us) → Vals vs us → sp vs H Q E →
    codeAny (model P w) A (.call (.ref f) args) (CR CX0 outer P w H s Q E) s
section
variable {P : Program} {w : World} {K : PySem.W.Frag} {mg : Str → Option Value} {base : Heap} {x qual : Str} {params : Arguments} {body : List Stmt} {scope : Scope} {f : Addr} {fd : FuncData}
theorem fnG_of {dvs : List V} {kws : List (Str × V)} {N ps : List Str} {k : Nat} {sp : Sp} (F : FunD K x qual params body scope dvs kws f fd) (S : FnScope N ps scope)
    (len : ∀ vs H Q E, sp vs H Q E → vs.length = ps.length)
    (hbody : ∀ (cdv : Value) (A : Around) (outer : List Env) (s : Shared) (H : Hp) (vs : List V) (Q : VK) (E : XK), A.guards = some [] →
      Room k (A.deeper (envOfC qual scope s.heap.objs.size f cdv)) → sp vs H Q E →
      ∃ t, PSs (cxOf CX0 P w K mg base N qual scope f cdv A outer s H E) body t ∧ t { nx := fun _ H' => Q .non H', rt := Q } (start N vs) H) :
    FnG P w K mg base (k + 1) f fd ps sp := by
  obtain ⟨oc, od, dV, kV, doc, pm, an, cdv, ct, osl, rfl, lk, hcd, _, _⟩ := F.ex
  refine ⟨len, fun A outer s H args us vs Q E hgd hr e0 hb r hsp => ?_⟩
  have hl := len _ _ _ _ hsp
  have kin : K.In s.heap := PySem.W.Frag.In.keeps e0.mod.kin fun b o e => (e0.bs b o e).1
  have nolim : s.heap.NoLimit := Heap.NoLimit.keeps e0.mod.nolimit fun b o e => (e0.bs b o e).1
  have kinds : ∀ y ∈ ps.zip us, scope.names.lookup y.1 = some .local ∨
      (scope.names.lookup y.1 = some .cell ∧ ((cellsFrom (s.heap.objs.size + 1) scope.names []).lookup y.1).isSome = true) := by
    rintro ⟨n, v⟩ hy
    exact (S.par n (List.of_mem_zip hy).1).imp id fun q => ⟨q, PySem.W.cellsFrom_some _ _ _ (.inl q)⟩
  refine codeAny_call_function hr.depth (kin _ _ lk) rfl S.co S.gen rfl (PySem.W.codeRec_of kin hcd) (hb _ _ _ _ ?_)
  refine wpAny_newFunctionEnv_cells S.kind kinds fun env he s1 z => ?_
  subst he
  refine ⟨nolim.keeps z.toInCall.keep, codeAny_func ?_⟩
  obtain ⟨t, ht, hq⟩ := hbody cdv A outer s H vs Q E hgd (hr.deeper _) hsp
  have I0 := inv_start (CX := CX0) (E := E) S hr.hd e0 hl r z
  refine wpAny_mono (ht.run [] s1 _ H _ I0 hq) (fun fl s' hs => ?_) fun e s' hs => hs
  cases fl with
  | ret u =>
    obtain ⟨v, σ', H', J, rv, q⟩ := hs
    exact ⟨v, H', J.os, J.bare, J.base, J.hok, rv, q⟩
  | next =>
    obtain ⟨σ', H', J, q⟩ := hs
    exact ⟨.non, H', J.os, J.bare, J.base, J.hok, rfl, q⟩
  | brk => obtain ⟨_, _, _, q⟩ := hs; exact q.elim
  | cont => obtain ⟨_, _, _, q⟩ := hs; exact q.elim
end
section
variable {X : Cx} {k : Nat} {f : Addr} {fd : FuncData} {ps : List Str} {sp : Sp} {x : Str} {p pos : Pos} {e : Expr} {es : List Expr} {t : TA}
/-- f(e, ..) -/
theorem pe_callG (F : FnG X.prog X.w X.K X.mg X.base k f fd ps sp) (hgd : X.A.guards = some []) (hr : Room k X.A) (hg : Gl X x) (hm : X.mg x = some (.ref f)) (hk : PySem.W.keepIn X.K (.ref f) = true) (hb : Binds X.K fd ps [])
    (ha : PA X (e :: es) t) (hdb : (x == ("__debug__" : Str)) = false := by decide) (he : starEach (e :: es) X.env = (false, eval e X.env) :: starEach es X.env := by rfl) (hpl : (backTo pos (starEach es X.env)).any (·.1) = false := by rfl) :
    PE X (.Call (.Name x p) (e :: es) [] pos) (tCall sp [] E0 t) := by
  refine ⟨fun pins s σ H Q I h => ?_⟩
  refine wpAny_Call_Name_kw (ld_glob I hg hm ?_ hdb)
  refine PySem.W.callWith_K (h₀ := X.base) I.ok.mod.kin hk (thn (ha.run pos pins s σ H _ I h) fun us s1 ⟨vs, H1, I1, r, q⟩ => ⟨I1.kIn, ?_⟩) he hpl
  have q : sp (vs ++ []) H1 Q E0 := q
  rw [List.append_nil] at q
  have hl : (us ++ []).length = ps.length := by rw [List.append_nil, ← r.length]; exact F.len _ _ _ _ q
  have bt := hb s1 us I1.kIn hl
  rw [List.append_nil] at bt
  refine wpAny_call (codeAny_mono (F.run X.A X.stack s1 H1 ⟨us, []⟩ us vs Q E0 hgd hr I1.env0 bt r q) fun r' s' z => ?_)
  cases r' with
  | error er => exact z.elim
  | ok fl =>
    cases fl with
    | ret u => exact I1.after z
    | next => exact z.elim
    | brk => exact z.elim
    | cont => exact z.elim
end

/-! ### the law's call: the script is tracked (or written), nothing else -/
section
variable {P : Program} {w : World} {K : PySem.W.Frag} {mg mb : Str → Option Value} {k : Nat} {fa a : Addr} {fd : FuncData} {x : Str} {sp : Sp} {s1 : Shared} {us : List Value} {ns : List Int}
abbrev Told (s1 : Shared) (r : Result) (s' : Shared) : Prop := r = .ok (.ret (.bool true)) ∧ OldK s1.heap s'.heap ∧ s'.os = s1.os ∧ AllBare s'.gens
abbrev scr (us : List Value) : Obj := { cls := .type "list", data := .seq us.toArray }
theorem law_at (H : Hp) (KX : K.In s1.heap) (hns : s1.heap.Ns mainGlobals mg) (hb : s1.heap.Ns builtinsNs mb) (hbb : ∀ x : Str, x ≠ "__name__" → mb x = bootBuiltins x)
    (hlim : s1.heap.NoLimit) (hg : s1.gens = #[]) (ha : s1.heap.get? a = some (scr us)) (hr : Room k callerA)
    (F : ∀ base : Heap, K.In base → base.Ns mainGlobals mg → FnG P w K mg base k fa fd [x] sp) (hbind : ∀ (s : Shared) (u : Value), BindsTo s fd ⟨[u], []⟩ [(x, u)])
    (hsp : sp [.ref a] H (fun v _ => v = .bl true) fun _ _ _ => False) (hO : Only H) (hok : HOk P w H s1.heap) (hA : ∀ b, H b ≠ none → b = a) (hK : H a ≠ none → K.lookup a = none) :
    codeAny (model P w) callerA (.call (.ref fa) ⟨[.ref a], []⟩) (Told s1) s1 := by
  -- what is not tracked stands below
  have at_a : ∀ {b : Addr}, H b ≠ none → b = a := fun {b} z => hA b z
  have dict_free : ∀ {b : Addr} {o : Obj} {es : Array DictEntry} {ep : Nat}, s1.heap.get? b = some o → o.data = .dict es ep → H b = none := by
    intro b o es ep e hd
    by_cases z : H b = none
    · exact z
    · rw [at_a z, ha] at e
      have e' := Option.some.inj e
      subst e'
      cases hd
  have ns_low : ∀ {b : Addr} {m : Str → Option Value}, s1.heap.Ns b m → (hidT s1.heap H).Ns b m := by
    rintro b m ⟨o, es, ep, e, d, r⟩
    exact ⟨o, es, ep, hidT_get e (dict_free e d), d, r⟩
  have k_low : K.In (hidT s1.heap H) := fun b o e => hidT_get (KX b o e) (by
    by_cases z : H b = none
    · exact z
    · have eb := at_a z
      rw [eb] at z e
      rw [hK z] at e
      cases e)
  obtain ⟨mc, l1, l2⟩ := hlim
  have md : Mod K mg (hidT s1.heap H) := ⟨k_low, ns_low hns, ⟨mb, ns_low hb, hbb⟩, ⟨mc, ns_low l1, l2⟩⟩
  have e0 : Env0 P w K mg (hidT s1.heap H) callerA [] s1 H :=
    ⟨rfl, md, fun b o e => of_hidT e, Nat.le_of_eq (hidT_size _ _), trivial, fun b z => (nomatch (show b ∈ ([] : List Addr) from z)), hok, .of_eq hg⟩
  refine codeAny_mono ((F _ k_low (ns_low hns)).run callerA [] s1 H ⟨[.ref a], []⟩ [.ref a] [.ref a] _ _ rfl hr e0 (hbind s1 (.ref a)) (.cons rfl .nil) hsp) fun r s' h => ?_
  cases r with
  | error e => exact h.elim
  | ok fl =>
    cases fl with
    | next => exact h.elim
    | brk => exact h.elim
    | cont => exact h.elim
    | ret u =>
      obtain ⟨v, H', os, bare, un, hok', r', q⟩ := h
      have q' : v = .bl true := q
      subst q'
      cases (show u = Value.bool true from r')
      refine ⟨rfl, OldK.of_keep fun b o e => ?_, os, bare⟩
      cases q : H b with
      | none => exact un.keep b o e q (fun z => nomatch (show b ∈ ([] : List Addr) from z)) (fun z => nomatch z)
      | some u =>
        rcases hO b with z | ⟨ob, xs, z⟩
        · rw [q] at z
          cases z
        · have f1 := (hok b _ z).1
          have f2 := (hok' b _ (un.frzs b ob _ z)).1
          rw [e] at f1
          cases f1
          exact f2
theorem law_callG (KX : K.In s1.heap) (hns : s1.heap.Ns mainGlobals mg) (hb : s1.heap.Ns builtinsNs mb) (hbb : ∀ x : Str, x ≠ "__name__" → mb x = bootBuiltins x)
    (hlim : s1.heap.NoLimit) (hg : s1.gens = #[]) (ha : s1.heap.get? a = some (scr us)) (hi : IntsAre us ns) (hl : ns.length ≤ sizeLine) (hr : Room k callerA)
    (F : ∀ base : Heap, K.In base → base.Ns mainGlobals mg → FnG P w K mg base k fa fd [x] sp) (hbind : ∀ (s : Shared) (u : Value), BindsTo s fd ⟨[u], []⟩ [(x, u)])
    (hsp : ∀ H : Hp, Only H → SqL K H a (ns.map V.int) → sp [.ref a] H (fun v _ => v = .bl true) fun _ _ _ => False) :
    codeAny (model P w) callerA (.call (.ref fa) ⟨[.ref a], []⟩) (Told s1) s1 := by
  have rv := vals_ints hi
  cases hk : K.lookup a with
  | some o =>
    have e := KX a o hk
    rw [ha] at e
    have e' := Option.some.inj e
    subst e'
    have only : Only (fun _ => none) := fun _ => .inl rfl
    exact law_at (fun _ => none) KX hns hb hbb hlim hg ha hr F hbind (hsp _ only (.inr ⟨_, us.toArray, _, hk, rfl, rfl, rfl, by rw [List.size_toArray, hi.length]; exact hl, by simpa using rv⟩)) only
      (fun _ _ z => nomatch (show (none : Option HO) = some _ from z)) (fun _ z => absurd rfl z) fun z => absurd rfl z
  | none =>
    let Hs : Hp := fun b => if b = a then some (.frz (scr us) (.lst (ns.map V.int))) else none
    have here : Hs a = some (.frz (scr us) (.lst (ns.map V.int))) := if_pos rfl
    have away : ∀ {b : Addr}, b ≠ a → Hs b = none := fun {b} z => if_neg z
    have only : Only Hs := fun b => by
      by_cases z : b = a
      · rw [z]
        exact .inr ⟨_, _, here⟩
      · exact .inl (away z)
    refine law_at Hs KX hns hb hbb hlim hg ha hr F hbind (hsp _ only (.inl (.inr ⟨_, here⟩))) only (fun b u z => ?_) (fun b z => ?_) fun _ => hk
    · by_cases eb : b = a
      · subst eb
        rw [here] at z
        cases z
        exact ⟨ha, by rw [List.length_map]; exact hl, us, _, rv, ha⟩
      · rw [away eb] at z
        cases z
    · by_cases eb : b = a
      · exact eb
      · exact absurd (away eb) z
end
theorem walk_ofG {l : PySem.W.OpenLaw} {n k : Nat} {q : Program} {loose : List Str} {XP : (Str → Option Value) → Heap → Prop} {YP : World → Heap → Prop} {d : DefRec} {x : Str}
    (hn : l.most = some n) (hn2 : n ≤ sizeLine) (hdf : d.params.defaults = []) (hr : Room k callerA)
    (F : ∀ (w : World) (mg : Str → Option Value) (fa : Addr) (h : Heap), YP w h → h.Ns mainGlobals mg → mg d.name = some (.ref fa) →
      ∃ (K : PySem.W.Frag) (fd : FuncData) (sp : Sp), K.In h ∧ (∀ (s : Shared) (u : Value), BindsTo s fd ⟨[u], []⟩ [(x, u)]) ∧
        (∀ (H : Hp) (a : Addr) (ns : List Int), ns.length ≤ n → Only H → SqL K H a (ns.map V.int) → sp [.ref a] H (fun v _ => v = .bl true) fun _ _ _ => False) ∧
        ∀ base : Heap, K.In base → base.Ns mainGlobals mg → FnG l.prog w K mg base k fa fd [x] sp) :
    PySem.W.WalkO q loose XP YP l.row.toRowW d [] (fun f vs => PySem.call f vs) := by
  refine Att.attach_call hn hdf fun w s0 s1 mg mb fa o pm cd doc a us ns G Y ho hd hcd hmg hobj hints hlen hg => ?_
  obtain ⟨K, fd, sp, KX, hb, hsp, hF⟩ := F w mg fa _ Y G.T.g hmg
  exact law_callG KX G.T.g G.T.b G.T.builtins G.T.nolimit hg hobj hints (Nat.le_trans hlen hn2) hr hF hb fun H hO hS => hsp H a ns hlen hO hS
end L2.EV
set_option Elab.async false
set_option linter.all false
set_option maxRecDepth 100000
set_option maxHeartbeats 4000000
namespace L2.K57
open PySem PySem.Spec PyProof.Rows L2.EV
def prog : Program := PySem.Challenge.pw_withinbooks_k57_whole_expressions_put_in
def top (i : Nat) : Stmt := prog.main.body.getD i (.Pass ⟨0, 0, 0, 0⟩)
abbrev FnP (K : PySem.W.Frag) (x : Str) (st : Stmt) (f : Addr) (fd : FuncData) : Prop := FunD K x x (defArgs st) (defBody st) (defScope st) [] [] f fd
/-! ### i ** j of greater i -/
theorem op_powX {X : Cx} : OpR X (binaryOp .Pow) (rI (fun i j => 0 ≤ j ∧ (Builtin.Int.intBits i : Int) * j ≤ 2 ^ 27) fun i j => .int (i ^ j.toNat)) :=
  opI fun _ _ _ _ _ _ _ hc q => pow_int hc.1 hc.2 q
/-! ### the mixing -/
abbrev sMix : Stmt := top 25
theorem scMix : FnScope ["_law_seed", "_law_turn", "_law_at", "_law_mixed_here"] ["_law_seed", "_law_turn", "_law_at"] (defScope sMix) := ⟨rfl, rfl, rfl, by decide +kernel, rfl, by decide +kernel, by decide +kernel⟩
def spMix : Sp := fun vs H Q _ => ∃ s t a : Int, vs = [.int s, .int t, .int a] ∧ (0 ≤ s ∧ s < 2 ^ 31) ∧ (0 ≤ t ∧ t < 2 ^ 60) ∧ (0 ≤ a ∧ a < 64) ∧ ∀ r : Int, 0 ≤ r → r < 2 ^ 31 → Q (.int r) H
section
variable {P : Program} {w : World} {K : PySem.W.Frag} {mg : Str → Option Value} {base : Heap} {f : Addr} {fd : FuncData}
theorem ok_mix (F : FnP K "_law_mixed" sMix f fd) (mI : mg "int" = none) : FnOk P w K mg base CX0 1 f fd ["_law_seed", "_law_turn", "_law_at"] spMix := by
  refine F.ok scMix (fun vs H Q E h => ?_) (fun cdv A outer s H vs Q E hr h => ?_)
  · obtain ⟨s, t, a, rfl, _⟩ := h
    rfl
  · obtain ⟨s, t, a, rfl, ⟨s0, s1⟩, ⟨t0, t1⟩, ⟨a0, a1⟩, k⟩ := h
    refine ⟨_, PSs.nox (pss_cons (ps_set (i := 3) scMix.nd rfl (Or.inl rfl) (pe_op op_add (pe_op op_mul (pv 0) pe_int) (pe_op op_mul (pe_op op_mul pe_int (pv 1)) (pv 1))))
      (pss_cons (ps_set (i := 3) scMix.nd rfl (Or.inl rfl) (pe_op op_mod (pe_callTy call_int1 (by rfl) mI (by decide +kernel) (pa_cons (pe_op op_add (pe_op op_add (pv 3) (pe_op op_mul pe_int (pv 2))) (pv 1)) pa_nil)) pe_int))
      (pss_cons (ps_set (i := 3) scMix.nd rfl (Or.inl rfl) (pe_op op_mod (pe_callTy call_int1 (by rfl) mI (by decide +kernel) (pa_cons (pe_op op_add (pe_op op_mul (pv 3) (pv 3)) pe_int) pa_nil)) pe_int))
      (pss_one (ps_ret (pe_op op_mod (pe_callTy call_int1 (by rfl) mI (by decide +kernel) (pa_cons (pe_op op_mul (pv 3) pe_int) pa_nil)) pe_int)))))), ?_⟩
    have md : ∀ (x n : Int), 0 < n → 0 ≤ x % n ∧ x % n < n := fun x n h => ⟨Int.emod_nonneg _ (by omega), Int.emod_lt_of_pos _ h⟩
    refine ⟨_, rfl, _, _, rfl, rfl, .inr ⟨by decide, by decide⟩, _, rfl, _, _, rfl, rfl, .inl ⟨by decide, by decide⟩, _, rfl, _, _, rfl, rfl, .inr ⟨by omega, by omega⟩, _, _, rfl, rfl, ?_⟩
    refine ⟨_, rfl, _, rfl, _, _, rfl, rfl, .inl ⟨by decide, by decide⟩, _, _, rfl, rfl, _, rfl, _, _, rfl, rfl, .inl ⟨_, rfl, _, _, rfl, rfl, (by show (0 : Int) < 2147483647; decide), ?_⟩⟩
    refine ⟨_, rfl, _, rfl, _, _, rfl, rfl, .inl ?_, _, _, rfl, rfl, .inl ⟨_, rfl, _, _, rfl, rfl, (by show (0 : Int) < 2147483629; decide), ?_⟩⟩
    · have z := md (s * 69069 + 104729 * t * t + 7919 * a + t) 2147483647 (by decide)
      exact ⟨by omega, by omega⟩
    refine ⟨_, rfl, _, _, rfl, rfl, .inr ⟨by decide, by decide⟩, .inl ⟨_, rfl, _, _, rfl, rfl, (by show (0 : Int) < 2147483587; decide), ?_⟩⟩
    have z := md ((((s * 69069 + 104729 * t * t + 7919 * a + t) % 2147483647 * ((s * 69069 + 104729 * t * t + 7919 * a + t) % 2147483647) + 40503) % 2147483629) * 48271) 2147483587 (by decide)
    exact k _ z.1 (Int.lt_trans z.2 (by decide))
end
end L2.K57
set_option Elab.async false
set_option linter.all false
set_option maxRecDepth 100000
set_option maxHeartbeats 4000000
namespace L2.K57
open PySem PySem.Spec PyProof.Rows L2.EV
/-! ### a purse: what is left of a great number, the seed, the turns taken (n draws at most), the place -/
def PurseAt (H : Hp) (p : Addr) (n : Nat) : Prop := ∃ c z t a : Int, H p = some (.lst [.int c, .int z, .int t, .int a]) ∧ (0 ≤ z ∧ z < 2 ^ 31) ∧ (0 ≤ t ∧ t ≤ 8 * n) ∧ (0 ≤ a ∧ a < 64)
/-- nothing but p is another thing -/
def But (p : Addr) (H H' : Hp) : Prop := ∀ b, b ≠ p → H' b = H b
theorem But.refl (p : Addr) (H : Hp) : But p H H := fun _ _ => rfl
theorem But.trans {p : Addr} {H H1 H2 : Hp} (a : But p H H1) (b : But p H1 H2) : But p H H2 := fun c h => (b c h).trans (a c h)
theorem but_upd {p : Addr} {H : Hp} {o : HO} : But p H (upd H p o) := fun _ h => upd_ne h
abbrev sDraw : Stmt := top 26
theorem scDraw : FnScope ["_law_purse_here", "_law_many", "_law_drawn", "_law_found", "_law_piece"] ["_law_purse_here", "_law_many"] (defScope sDraw) := ⟨rfl, rfl, rfl, by decide +kernel, rfl, by decide +kernel, by decide +kernel⟩
def spDraw : Sp := fun vs H Q _ => ∃ (p : Addr) (m : Int) (n : Nat), vs = [.ref p, .int m] ∧ (0 < m ∧ m < 2 ^ 200) ∧ PurseAt H p n ∧ n < 2 ^ 50 ∧
  ∀ (r : Int) (H' : Hp), 0 ≤ r → r < m → PurseAt H' p (n + 1) → But p H H' → Q (.int r) H'
section
variable {P : Program} {w : World} {K : PySem.W.Frag} {mg : Str → Option Value} {base : Heap} {f fM : Addr} {fd fdM : FuncData}
theorem ok_draw (F : FnP K "_law_draw" sDraw f fd) (FM : FnP K "_law_mixed" sMix fM fdM) (gM : mg "_law_mixed" = some (.ref fM)) (mI : mg "int" = none) (mR : mg "range" = none) :
    FnOk P w K mg base CX0 2 f fd ["_law_purse_here", "_law_many"] spDraw := by
  have GM : FnOk P w K mg base CX0 1 fM fdM ["_law_seed", "_law_turn", "_law_at"] spMix := ok_mix FM mI
  have bM : Binds K fdM ["_law_seed", "_law_turn", "_law_at"] [] := FM.bindsN fun _ _ _ _ _ _ us hl => match us, hl with | [_, _, _], _ => rfl
  refine F.ok scDraw (fun vs H Q E h => ?_) (fun cdv A outer s H vs Q E hr h => ?_)
  · obtain ⟨p, m, n, rfl, _⟩ := h
    rfl
  · obtain ⟨p, m, n, rfl, ⟨m0, m1⟩, ⟨c, z, t, a, hp, hz, ht, ha⟩, hn, k⟩ := h
    refine ⟨_, PSs.nox (pss_cons (ps_if (pt_cmpR op_gt (pe_ix ix_list (pv 0) pe_int (fun _ _ => rfl)) pe_int (nomark _))
        (pss_cons (ps_set (i := 2) scDraw.nd rfl (Or.inl rfl) (pe_op op_mod (pe_callTy call_int1 (by rfl) mI (by decide +kernel) (pa_cons (pe_ix ix_list (pv 0) pe_int (fun _ _ => rfl)) pa_nil)) (pv 1)))
        (pss_cons (ps_asg (pe_op op_fdivW (pe_ix ix_list (pv 0) pe_int (fun _ _ => rfl)) (pv 1)) (pg_sub (pv 0) pe_int set_list))
        (pss_one (ps_ret (pv 2))))) pss_nil)
      (pss_cons (ps_set (i := 3) scDraw.nd rfl (Or.inl rfl) pe_int)
      (pss_cons (ps_for PassesOwn.never rfl (pi_range1 (by rfl) mR (pa_cons (pe_op op_add pe_int (pe_op op_fdiv (pe_bits (pv 1)) pe_int)) pa_nil)) (pg_name (i := 4) scDraw.nd rfl (Or.inl rfl))
        (pss_cons (ps_asg (pe_op op_add (pe_ix ix_list (pv 0) pe_int (fun _ _ => rfl)) pe_int) (pg_sub (pv 0) pe_int set_list))
        (pss_one (ps_set (i := 3) scDraw.nd rfl (Or.inl rfl) (pe_op op_add (pe_op op_mul (pv 3) pe_int)
          (pe_call GM hr (by rfl) gM FM.kp bM .nil pass0 (pa_cons (pe_ix ix_list (pv 0) pe_int (fun _ _ => rfl)) (pa_cons (pe_ix ix_list (pv 0) pe_int (fun _ _ => rfl)) (pa_cons (pe_ix ix_list (pv 0) pe_int (fun _ _ => rfl)) pa_nil)))))))))
      (pss_one (ps_ret (pe_op op_mod (pe_callTy call_int1 (by rfl) mI (by decide +kernel) (pa_cons (pv 3) pa_nil)) (pv 1))))))), ?_⟩
    have it0 : ∀ {x0 x1 x2 x3 : V}, atI [x0, x1, x2, x3] 0 = some x0 := rfl
    have it1 : ∀ {x0 x1 x2 x3 : V}, atI [x0, x1, x2, x3] 1 = some x1 := rfl
    have it2 : ∀ {x0 x1 x2 x3 : V}, atI [x0, x1, x2, x3] 2 = some x2 := rfl
    have it3 : ∀ {x0 x1 x2 x3 : V}, atI [x0, x1, x2, x3] 3 = some x3 := rfl
    refine ⟨_, rfl, p, _, _, _, rfl, rfl, SqL.of hp, it0, _, _, rfl, rfl, _, rfl, ?_⟩
    refine ite2 (fun _ => ?_) (fun _ => ?_)
    · refine ⟨_, rfl, p, _, _, _, rfl, rfl, SqL.of hp, it0, .inl ⟨_, rfl, _, rfl, _, _, rfl, rfl, m0, ?_⟩⟩
      refine ⟨_, rfl, p, _, _, _, rfl, rfl, SqL.of hp, it0, _, rfl, _, _, rfl, rfl, wide_div (b := 200) m0 (by omega) (by decide) (by decide), ?_⟩
      refine ⟨_, rfl, p, _, _, 0, rfl, rfl, hp, rfl, _, rfl, ?_⟩
      exact k _ _ (Int.emod_nonneg _ (by omega)) (Int.emod_lt_of_pos _ m0) ⟨_, z, t, a, upd_same, hz, ⟨ht.1, by omega⟩, ha⟩ but_upd
    · have hbits : Builtin.Int.intBits m ≤ 200 := intBits_le (k := 200) (by omega)
      have hq : (0 : Int) ≤ (Builtin.Int.intBits m : Int) / 28 ∧ (Builtin.Int.intBits m : Int) / 28 ≤ 7 := ⟨by omega, by omega⟩
      refine ⟨_, rfl, m, rfl, _, _, rfl, rfl, ⟨by decide, by decide⟩, _, _, rfl, rfl, _, rfl, by omega, by omega, ?_⟩
      refine for_range (fun i σ H' => ∃ (fv : Int) (v4 : Option V), σ = [some (.ref p), some (.int m), none, some (.int fv), v4] ∧ H' p = some (.lst [.int c, .int z, .int (t + i), .int a]) ∧ But p H H')
        ⟨0, none, rfl, by simpa using hp, But.refl _ _⟩ ?_ ?_
      · rintro i σ H' hi ⟨fv, v4, rfl, h1, bt⟩
        have hi' : (i : Int) < 8 := by omega
        have h2 : upd H' p (.lst [.int c, .int z, .int (t + i + 1), .int a]) p = some (.lst [.int c, .int z, .int (t + i + 1), .int a]) := upd_same
        refine ⟨_, rfl, p, _, _, _, rfl, rfl, SqL.of h1, it2, _, _, rfl, rfl, _, rfl, p, _, _, 2, rfl, rfl, h1, rfl, ?_⟩
        refine ⟨_, rfl, _, _, rfl, rfl, .inr ⟨by decide, by decide⟩, ?_⟩
        refine ⟨_, rfl, p, _, _, _, rfl, rfl, SqL.of h2, it1, _, rfl, p, _, _, _, rfl, rfl, SqL.of h2, it2, _, rfl, p, _, _, _, rfl, rfl, SqL.of h2, it3, ?_⟩
        refine ⟨z, t + i + 1, a, rfl, hz, ⟨by omega, by omega⟩, ha, fun r r0 r1 => ?_⟩
        refine ⟨_, _, rfl, rfl, _, _, rfl, ?_, bt.trans but_upd⟩
        have e : t + (i : Int) + 1 = t + ((i + 1 : Nat) : Int) := by omega
        show upd H' p (HO.lst [V.int c, V.int z, V.int (t + (i : Int) + 1), V.int a]) p = _
        rw [upd_same, e]
      · rintro σ H' ⟨fv, v4, rfl, h1, bt⟩
        refine ⟨_, rfl, .inl ⟨_, rfl, _, rfl, _, _, rfl, rfl, m0, ?_⟩⟩
        exact k _ _ (Int.emod_nonneg _ (by omega)) (Int.emod_lt_of_pos _ m0) ⟨c, z, _, a, h1, hz, ⟨by omega, by omega⟩, ha⟩ bt
end
end L2.K57
set_option Elab.async false
set_option linter.all false
set_option maxRecDepth 100000
set_option maxHeartbeats 4000000
namespace L2.K57
open PySem PySem.Spec PyProof.Rows L2.EV
theorem same_upd {H : Hp} {p : Addr} {o : HO} (h : H p = none) : Same H (upd H p o) := fun b u e => by
  rw [upd_ne (ne_of_none e h)]
  exact e
theorem PurseAt.up {H : Hp} {p : Addr} {n m : Nat} (h : PurseAt H p n) (hm : n ≤ m) : PurseAt H p m := by
  obtain ⟨c, z, t, a, h1, h2, h3, h4⟩ := h
  exact ⟨c, z, t, a, h1, h2, ⟨h3.1, by omega⟩, h4⟩
theorem PurseAt.same {H H' : Hp} {p : Addr} {n : Nat} (h : PurseAt H p n) (s : Same H H') : PurseAt H' p n := by
  obtain ⟨c, z, t, a, h1, h2⟩ := h
  exact ⟨c, z, t, a, s _ _ h1, h2⟩
theorem PurseAt.but {H H' : Hp} {p q : Addr} {n : Nat} (h : PurseAt H p n) (s : But q H H') (ne : p ≠ q) : PurseAt H' p n := by
  obtain ⟨c, z, t, a, h1, h2⟩ := h
  exact ⟨c, z, t, a, (s p ne).trans h1, h2⟩
theorem PurseAt.some {H : Hp} {p : Addr} {n : Nat} (h : PurseAt H p n) : ∃ o, H p = some o := by
  obtain ⟨c, z, t, a, h1, h2⟩ := h
  exact ⟨_, h1⟩
/-! ### one purse -/
abbrev sPurse : Stmt := top 24
theorem scPurse : FnScope ["_law_script", "_law_at", "_law_seed"] ["_law_script", "_law_at"] (defScope sPurse) := ⟨rfl, rfl, rfl, by decide +kernel, rfl, by decide +kernel, by decide +kernel⟩
def spPurse (K : PySem.W.Frag) : Sp := fun vs H Q _ => ∃ (a : Addr) (ns : List Int) (i : Int), vs = [.ref a, .int i] ∧ SqL K H a (ns.map V.int) ∧ (0 ≤ i ∧ i < 64) ∧
  ∀ (p : Addr) (H' : Hp), PurseAt H' p 0 → Same H H' → H p = none → Q (.ref p) H'
theorem cutV_ints (ns : List Int) (lo hi : Option Int) : ∃ ms : List Int, cutV (ns.map V.int) lo hi = ms.map V.int :=
  ⟨(ns.drop (HT.sIx (ns.map V.int).length 0 lo)).take (HT.sIx (ns.map V.int).length (ns.map V.int).length hi - HT.sIx (ns.map V.int).length 0 lo), by
    unfold cutV
    rw [List.map_take, List.map_drop]⟩
section
variable {P : Program} {w : World} {K : PySem.W.Frag} {mg : Str → Option Value} {base : Heap} {f fP fD : Addr} {fd fdP fdD : FuncData}
theorem ok_purse (F : FnP K "_law_purse" sPurse f fd) (mS : mg "sum" = none) (mI : mg "int" = none) (mM : mg "max" = none) :
    FnOk P w K mg base CX0 1 f fd ["_law_script", "_law_at"] (spPurse K) := by
  refine F.ok scPurse (fun vs H Q E h => ?_) (fun cdv A outer s H vs Q E hr h => ?_)
  · obtain ⟨a, ns, i, rfl, _⟩ := h
    rfl
  · obtain ⟨a, ns, i, rfl, hS, hi, k⟩ := h
    refine ⟨_, PSs.nox (pss_cons (ps_set (i := 2) scPurse.nd rfl (Or.inl rfl) (pe_callB (cr_sum rfl) (by rfl) mS (by decide +kernel) (pa_cons (pe_slice sl_list (pv 0) (po_some (pv 1)) (po_some (pe_op op_add (pv 1) pe_int))) pa_nil)))
      (pss_one (ps_ret (pe_lst (pa_cons (pe_op op_mod (pe_callTy call_int1 (by rfl) mI (by decide +kernel) (pa_cons (pe_callB (call_max2 rfl) (by rfl) mM (by decide +kernel) (pa_cons (pe_op op_sub (pv 2) (pe_op op_powX pe_int pe_int)) (pa_cons pe_int pa_nil))) pa_nil)) (pe_op op_powX (pe_op op_powX pe_int pe_int) pe_int))
        (pa_cons (pe_op op_mod (pe_callTy call_int1 (by rfl) mI (by decide +kernel) (pa_cons (pv 2) pa_nil)) pe_int) (pa_cons pe_int (pa_cons (pv 1) pa_nil)))))))), ?_⟩
    obtain ⟨ms, hms⟩ := cutV_ints ns (some i) (some (i + 1))
    refine ⟨_, rfl, _, rfl, _, rfl, _, rfl, _, _, rfl, rfl, _, rfl, _, _, rfl, hS, fun l hl => ?_⟩
    have s1 := same_upd (o := .lst (cutV (ns.map V.int) (some i) (some (i + 1)))) hl
    refine ⟨l, ms, rfl, SqL.of (by rw [← hms]; exact upd_same), ?_⟩
    refine ⟨_, rfl, _, _, rfl, rfl, ⟨by decide, by decide +kernel⟩, _, _, rfl, rfl, _, _, rfl, .inl ⟨_, rfl, _, _, rfl, rfl, ⟨by decide, by decide +kernel⟩, _, _, rfl, rfl, ⟨by decide, by decide +kernel⟩, _, _, rfl, rfl, (by show (0 : Int) < ((10 : Int) ^ (60 : Int).toNat) ^ (8 : Int).toNat; decide +kernel), ?_⟩⟩
    refine ⟨_, rfl, .inl ⟨_, rfl, _, _, rfl, rfl, (by show (0 : Int) < 2147483629; decide), _, rfl, (by show 4 ≤ sizeLine; decide), fun p hp => ?_⟩⟩
    refine k p _ ⟨_, _, _, _, upd_same, ⟨Int.emod_nonneg _ (by decide), Int.lt_trans (Int.emod_lt_of_pos _ (by decide)) (by decide)⟩, ⟨by decide, by decide⟩, hi⟩ (s1.trans (same_upd hp)) (s1.free hp)
end
/-! ### the purses -/
abbrev sPurses : Stmt := top 27
abbrev nPurses : List Str := ["_law_script", "_law_few", "_law_at"]
theorem scPurses : FnScope nPurses ["_law_script", "_law_few"] (defScope sPurses) := ⟨rfl, rfl, rfl, by decide +kernel, rfl, by decide +kernel, by decide +kernel⟩
def spPurses (K : PySem.W.Frag) : Sp := fun vs H Q _ => ∃ (a : Addr) (ns : List Int) (c : Int), vs = [.ref a, .int c] ∧ SqL K H a (ns.map V.int) ∧ ns.length ≤ 63 ∧ (0 ≤ c ∧ c < 64) ∧
  ∀ (l : Addr) (ps : List Addr) (H' : Hp), ps.length ≤ 64 → H' l = some (.lst (ps.map V.ref)) → (∀ p ∈ ps, PurseAt H' p 0 ∧ p ≠ l) → Same H H' → Q (.ref l) H'
section
variable {P : Program} {w : World} {K : PySem.W.Frag} {mg : Str → Option Value} {base : Heap} {f fP fD : Addr} {fd fdP fdD : FuncData}
theorem ok_purses (F : FnP K "_law_purses" sPurses f fd) (FP : FnP K "_law_purse" sPurse fP fdP) (gP : mg "_law_purse" = some (.ref fP)) (mS : mg "sum" = none) (mI : mg "int" = none) (mM : mg "max" = none) (mN : mg "min" = none) (mL : mg "len" = none) (mR : mg "range" = none) :
    FnOk P w K mg base CX0 2 f fd ["_law_script", "_law_few"] (spPurses K) := by
  have GP : FnOk P w K mg base CX0 1 fP fdP ["_law_script", "_law_at"] (spPurse K) := ok_purse FP mS mI mM
  have bP : Binds K fdP ["_law_script", "_law_at"] [] := FP.bindsN fun _ _ _ _ _ _ us hl => match us, hl with | [_, _], _ => rfl
  refine F.ok scPurses (fun vs H Q E h => ?_) (fun cdv A outer s H vs Q E hr h => ?_)
  · obtain ⟨a, ns, c, rfl, _⟩ := h
    rfl
  · obtain ⟨a, ns, c, rfl, hS, hl63, hc, k⟩ := h
    refine ⟨_, PSs.nox (pss_one (ps_ret (pe_lc (own := [("_law_at", 2)]) (g := gName 2) (tt := tYes) (by rfl) scPurses.nd
      (pi_range1 (by rfl) mR (pa_cons (pe_callB (call_max2 rfl) (by rfl) mM (by decide +kernel) (pa_cons pe_int (pa_cons (pe_callB (call_min2 rfl) (by rfl) mN (by decide +kernel) (pa_cons (pv 1) (pa_cons (pe_callB call_len_seq (by rfl) mL PySem.boot_len (pa_cons (pv 0) pa_nil)) pa_nil))) pa_nil))) pa_nil))
      (blkOk_by (own := [("_law_at", 2)]) (N := nPurses) (sc := defScope sPurses) (by decide +kernel)) (fun _ _ _ _ _ => pg_name (i := 2) scPurses.nd rfl (Or.inl rfl)) (fun _ _ _ _ _ => pts_nil)
      (fun _ _ _ _ _ => pe_call GP hr (by rfl) gP FP.kp bP .nil pass0 (pa_cons (pv 0) (pa_cons (pv 2) pa_nil)))))), ?_⟩
    refine ⟨_, rfl, _, rfl, a, _, rfl, .inl hS, _, _, rfl, _, _, rfl, ?_⟩
    rw [List.length_map]
    generalize hj : (if (if (ns.length : Int) < c then (ns.length : Int) else c) > 1 then (if (ns.length : Int) < c then (ns.length : Int) else c) else 1) = j
    have hj1 : 1 ≤ j ∧ j ≤ 64 := by
      rw [← hj]
      split <;> split <;> omega
    refine ⟨j, rfl, by omega, by omega, fun D hD => ?_⟩
    refine lc_range (lo := 0) (n := j.toNat) (fun i H' => ∃ ps : List Addr, ps.length = i ∧ H' D = some (.lst (ps.map V.ref)) ∧ (∀ p ∈ ps, PurseAt H' p 0 ∧ p ≠ D) ∧ Same H H')
      ⟨[], rfl, upd_same, (fun _ z => absurd z List.not_mem_nil), same_upd hD⟩ ?_ ?_
    · rintro i H' hi ⟨ps, hlen, hl, hp, s1⟩
      refine ⟨rfl, ?_⟩
      dsimp only [tYes]
      rw [if_pos rfl]
      refine ⟨_, rfl, _, rfl, a, ns, _, rfl, s1.seq hS, ⟨by omega, by omega⟩, fun p H2 h1 s2 hn => ?_⟩
      have hl2 := s2 _ _ hl
      have ne : p ≠ D := by
        intro e
        rw [e, hl] at hn
        cases hn
      refine ⟨_, hl2, by rw [List.length_map, hlen]; exact small1000 (by omega), ps ++ [p], by simp [hlen], ?_, fun q hq => ?_, fun b o e => ?_⟩
      · rw [upd_same]
        simp
      · have nq : ∀ q, q ≠ D → PurseAt H2 q 0 → PurseAt (upd H2 D (.lst (ps.map V.ref ++ [.ref p]))) q 0 ∧ q ≠ D := fun q n h => ⟨h.but but_upd n, n⟩
        rcases List.mem_append.mp hq with z | z
        · exact nq q (hp q z).2 ((hp q z).1.same s2)
        · have e : q = p := by simpa using z
          subst e
          exact nq q ne h1
      · rw [upd_ne (ne_of_none e hD)]
        exact s2 _ _ (s1 _ _ e)
    · rintro H' ⟨ps, hlen, hl, hp, s1⟩
      exact k D ps H' (by omega) hl hp s1
end
end L2.K57
set_option Elab.async false
set_option linter.all false
set_option maxRecDepth 100000
set_option maxHeartbeats 4000000
namespace L2.K57
open PySem PySem.Spec PyProof.Rows L2.EV
/-! ### one of some -/
abbrev sOne : Stmt := top 28
theorem scOne : FnScope ["_law_purse_here", "_law_some"] ["_law_purse_here", "_law_some"] (defScope sOne) := ⟨rfl, rfl, rfl, by decide +kernel, rfl, by decide +kernel, by decide +kernel⟩
def spOne : Sp := fun vs H Q _ => ∃ (p l : Addr) (xs : List V) (n : Nat), vs = [.ref p, .ref l] ∧ H l = some (.lst xs) ∧ l ≠ p ∧ (0 < xs.length ∧ xs.length < 2 ^ 200) ∧ PurseAt H p n ∧ n < 2 ^ 50 ∧
  ∀ (i : Nat) (x : V) (H' : Hp), xs[i]? = some x → PurseAt H' p (n + 1) → But p H H' → Q x H'
section
variable {P : Program} {w : World} {K : PySem.W.Frag} {mg : Str → Option Value} {base : Heap} {f fD : Addr} {fd fdD : FuncData}
theorem ok_one (F : FnP K "_law_one_of" sOne f fd) (GD : FnOk P w K mg base CX0 2 fD fdD ["_law_purse_here", "_law_many"] spDraw) (bD : Binds K fdD ["_law_purse_here", "_law_many"] []) (kD : PySem.W.keepIn K (.ref fD) = true)
    (gD : mg "_law_draw" = some (.ref fD)) (mL : mg "len" = none) : FnOk P w K mg base CX0 3 f fd ["_law_purse_here", "_law_some"] spOne := by
  refine F.ok scOne (fun vs H Q E h => ?_) (fun cdv A outer s H vs Q E hr h => ?_)
  · obtain ⟨p, l, xs, n, rfl, _⟩ := h
    rfl
  · obtain ⟨p, l, xs, n, rfl, hl, ne, hx, hp, hn, k⟩ := h
    refine ⟨_, PSs.nox (pss_one (ps_ret (pe_ix ix_list (pv 1) (pe_call GD hr (by rfl) gD kD bD .nil pass0 (pa_cons (pv 0) (pa_cons (pe_callB call_len_seq (by rfl) mL PySem.boot_len (pa_cons (pv 1) pa_nil)) pa_nil))) (fun _ _ => rfl)))), ?_⟩
    refine ⟨_, rfl, _, rfl, _, rfl, l, xs, rfl, .inl (SqL.of hl), ?_⟩
    refine ⟨p, _, n, rfl, ⟨by omega, by omega⟩, hp, hn, fun r H' r0 r1 h1 bt => ?_⟩
    obtain ⟨i, rfl⟩ := Int.eq_ofNat_of_zero_le r0
    have hi : i < xs.length := by omega
    have hg : xs[i]? = some xs[i] := List.getElem?_eq_getElem hi
    exact ⟨l, xs, i, xs[i], rfl, rfl, SqL.of ((bt l ne).trans hl), atI_nat hg, k i _ H' hg h1 bt⟩
end
/-! ### a word -/
def Word (x : Str) : Prop := (1 ≤ x.length ∧ x.length ≤ 8) ∧ ∀ c ∈ x.cps.toList, 97 ≤ c ∧ c ≤ 122
theorem Word.codes {x : Str} (h : Word x) : Codes x := fun c hc => Nat.lt_of_le_of_lt (h.2 c hc).2 (by decide)
abbrev abc : Str := "abcdefghijklmnopqrstuvwxyz"
abbrev sWord : Stmt := top 31
abbrev nWord : List Str := ["_law_purse_here", "_law_size", "_law_turn"]
theorem scWord : FnScope nWord ["_law_purse_here"] (defScope sWord) := ⟨rfl, rfl, rfl, by decide +kernel, rfl, by decide +kernel, by decide +kernel⟩
def spWord : Sp := fun vs H Q _ => ∃ (p : Addr) (n : Nat), vs = [.ref p] ∧ PurseAt H p n ∧ n < 2 ^ 40 ∧
  ∀ (x : Str) (H' : Hp), Word x → PurseAt H' p (n + 10) → (∀ b o, b ≠ p → H b = some o → H' b = some o) → Q (.str x) H'
theorem joinL_nil : ∀ xs : List (List Nat), TL.joinL [] xs = xs.flatten
  | [] => rfl
  | [p] => by simp [TL.joinL]
  | p :: q :: r => by
    show p ++ ([] ++ TL.joinL [] (q :: r)) = _
    rw [joinL_nil (q :: r)]
    simp
/-- one sign of the alphabet -/
def Sign (y : Str) : Prop := ∃ c, y = ⟨#[c]⟩ ∧ 97 ≤ c ∧ c ≤ 122
theorem join_signs {ys : List Str} (h : ∀ y ∈ ys, Sign y) (h1 : 1 ≤ ys.length) (h8 : ys.length ≤ 8) : Word (Txt.join ("" : Str) ys) := by
  have e : TL.tl (Txt.join ("" : Str) ys) = (ys.map TL.tl).flatten := by
    rw [TL.join_eq, TL.tl_join]
    exact joinL_nil _
  have len : ∀ zs : List Str, (∀ y ∈ zs, Sign y) → ((zs.map TL.tl).flatten).length = zs.length := by
    intro zs
    induction zs with
    | nil => intro _; rfl
    | cons z zs ih =>
      intro hz
      obtain ⟨c, rfl, _⟩ := hz z List.mem_cons_self
      have q := ih fun y hy => hz y (List.mem_cons_of_mem _ hy)
      rw [List.map_cons, List.flatten_cons, List.length_append, q]
      show 1 + zs.length = zs.length + 1
      omega
  have hl : (Txt.join ("" : Str) ys).length = ys.length := by
    rw [← len ys h, ← e]
    show (Txt.join ("" : Str) ys).cps.size = _
    rw [Array.length_toList]
  refine ⟨by omega, fun c hc => ?_⟩
  rw [show (Txt.join ("" : Str) ys).cps.toList = (ys.map TL.tl).flatten from e] at hc
  obtain ⟨z, hz, hcz⟩ := List.mem_flatten.mp hc
  obtain ⟨y, hy, rfl⟩ := List.mem_map.mp hz
  obtain ⟨d, rfl, hd⟩ := h y hy
  have ec : c = d := by simpa using hcz
  rw [ec]
  exact hd
theorem sign_at {i : Nat} (h : i < 26) : ∃ c, abc.cps.toList[i]? = some c ∧ 97 ≤ c ∧ c ≤ 122 := by
  have e : abc.cps.toList = (List.range 26).map (· + 97) := by decide +kernel
  refine ⟨i + 97, ?_, by omega, by omega⟩
  rw [e, List.getElem?_map, List.getElem?_range h]
  rfl
section
variable {P : Program} {w : World} {K : PySem.W.Frag} {mg : Str → Option Value} {base : Heap} {f fD : Addr} {fd fdD : FuncData}
theorem ok_word (F : FnP K "_law_word" sWord f fd) (GD : FnOk P w K mg base CX0 2 fD fdD ["_law_purse_here", "_law_many"] spDraw) (bD : Binds K fdD ["_law_purse_here", "_law_many"] []) (kD : PySem.W.keepIn K (.ref fD) = true)
    (gD : mg "_law_draw" = some (.ref fD)) (mR : mg "range" = none) : FnOk P w K mg base CX0 3 f fd ["_law_purse_here"] spWord := by
  refine F.ok scWord (fun vs H Q E h => ?_) (fun cdv A outer s H vs Q E hr h => ?_)
  · obtain ⟨p, n, rfl, _⟩ := h
    rfl
  · obtain ⟨p, n, rfl, hp, hn, k⟩ := h
    refine ⟨_, PSs.nox (pss_cons (ps_set (i := 1) scWord.nd rfl (Or.inl rfl) (pe_op op_add pe_int (pe_call GD hr (by rfl) gD kD bD .nil pass0 (pa_cons (pv 0)
          (pa_cons (pe_ifExp (pt_cmpR op_eq (pe_call GD hr (by rfl) gD kD bD .nil pass0 (pa_cons (pv 0) (pa_cons pe_int pa_nil))) pe_int (nomark _)) pe_int pe_int) pa_nil)))))
      (pss_one (ps_ret (pe_join pe_str (pe_lc (own := [("_law_turn", 2)]) (g := gName 2) (tt := tYes) (by rfl) scWord.nd
        (pi_range1 (by rfl) mR (pa_cons (pv 1) pa_nil))
        (blkOk_by (own := [("_law_turn", 2)]) (N := nWord) (sc := defScope sWord) (by decide +kernel)) (fun _ _ _ _ _ => pg_name (i := 2) scWord.nd rfl (Or.inl rfl)) (fun _ _ _ _ _ => pts_nil)
        (fun _ _ _ _ _ => pe_ix ix_str pe_str (pe_call GD hr (by rfl) gD kD bD .nil pass0 (pa_cons (pv 0) (pa_cons pe_int pa_nil))) (fun _ _ => rfl))))))), ?_⟩
    refine ⟨_, rfl, _, rfl, ?_⟩
    refine ⟨p, 3, n, rfl, ⟨by decide, by decide⟩, hp, by omega, fun r1 H1 _ _ p1 b1 => ⟨rfl, _, rfl, ?_⟩⟩
    -- eight signs at most, or three
    refine ite2 (fun _ => ?_) (fun _ => ?_)
    all_goals
      refine ⟨p, _, n + 1, rfl, ⟨by decide, by decide⟩, p1, by omega, fun r2 H2 q0 q1 p2 b2 => ⟨_, _, rfl, rfl, ?_⟩⟩
      obtain ⟨m, rfl⟩ := Int.eq_ofNat_of_zero_le q0
      refine ⟨⟨_, rfl⟩, _, rfl, _, rfl, by omega, by omega, fun D hD => ?_⟩
      have em : (1 + (m : Int)).toNat = m + 1 := by omega
      rw [em]
      refine lc_range (lo := 0) (n := m + 1) (fun i H' => ∃ ys : List Str, ys.length = i ∧ H' D = some (.lst (ys.map V.str)) ∧ (∀ y ∈ ys, Sign y) ∧ PurseAt H' p (n + 2 + i) ∧ (∀ b o, b ≠ p → H b = some o → H' b = some o) ∧ p ≠ D)
        ⟨[], rfl, upd_same, (fun _ z => absurd z List.not_mem_nil), ?_, fun b o nb e => ?_, ?_⟩ ?_ ?_
      · obtain ⟨o, eo⟩ := p2.some
        exact (p2.but but_upd (ne_of_none eo hD))
      · have e2 : H2 b = some o := (b2 b nb).trans ((b1 b nb).trans e)
        rw [upd_ne (ne_of_none e2 hD)]
        exact e2
      · obtain ⟨o, eo⟩ := p2.some
        exact ne_of_none eo hD
      · rintro i H' hi ⟨ys, hlen, hl, hy, hp', kp, nD⟩
        refine ⟨rfl, ?_⟩
        dsimp only [tYes]
        rw [if_pos rfl]
        refine ⟨_, rfl, p, 26, n + 2 + i, rfl, ⟨by decide, by decide⟩, hp', by omega, fun r H3 s0 s1 p3 b3 => ?_⟩
        obtain ⟨j, rfl⟩ := Int.eq_ofNat_of_zero_le s0
        obtain ⟨c, hc, hcb⟩ := sign_at (i := j) (by omega)
        have hl3 : H3 D = some (.lst (ys.map V.str)) := (b3 D (Ne.symm nD)).trans hl
        refine ⟨abc, j, c, rfl, rfl, (by decide +kernel), atI_nat hc, ?_⟩
        refine ⟨_, hl3, by rw [List.length_map, hlen]; exact small1000 (by omega), ys ++ [⟨#[c]⟩], by simp [hlen], ?_, fun y hy' => ?_, ?_, fun b o nb e => ?_, nD⟩
        · rw [upd_same]
          simp
        · rcases List.mem_append.mp hy' with z | z
          · exact hy y z
          · exact ⟨c, by simpa using z, hcb⟩
        · exact p3.but but_upd nD
        · have e3 : H3 b = some o := (b3 b nb).trans (kp b o nb e)
          by_cases eb : b = D
          · subst eb
            have e2 : H2 b = some o := (b2 b nb).trans ((b1 b nb).trans e)
            rw [hD] at e2
            cases e2
          · rw [upd_ne eb]
            exact e3
      · rintro H' ⟨ys, hlen, hl, hy, hp', kp, nD⟩
        have sum_le : ∀ zs : List Str, (∀ y ∈ zs, Sign y) → (zs.map (·.length)).sum = zs.length := by
          intro zs
          induction zs with
          | nil => intro _; rfl
          | cons z zs ih =>
            intro hz
            obtain ⟨c, rfl, _⟩ := hz z List.mem_cons_self
            have q := ih fun y hy => hz y (List.mem_cons_of_mem _ hy)
            rw [List.map_cons, List.sum_cons, q]
            show 1 + zs.length = zs.length + 1
            omega
        refine ⟨_, D, ys, rfl, rfl, .inl (SqL.of hl), ?_, ?_⟩
        · rw [sum_le ys hy]
          show ys.length + ys.length * 0 ≤ 16777216
          omega
        · exact k _ H' (join_signs hy (by omega) (by omega)) (hp'.up (by omega)) kp
end
end L2.K57
set_option Elab.async false
set_option linter.all false
set_option maxRecDepth 100000
set_option maxHeartbeats 4000000
namespace L2.K57
open PySem PySem.Spec PyProof.Rows L2.EV
/-! ### list of a text: its signs -/
def signs (z : Str) : List Str := z.cps.toList.map fun c => ⟨#[c]⟩
theorem vals_signs {x : Str} : ∀ (its : List Value) (k : Nat), (∀ j v, its[j]? = some v → SignAt x (k + j) v) → its.length + k = x.cps.size → Vals (((x.cps.toList.drop k).map fun c => (⟨#[c]⟩ : Str)).map V.str) its
  | [], k, _, hl => by
    have : x.cps.toList.drop k = [] := List.drop_eq_nil_iff.mpr (by simp at hl ⊢; omega)
    rw [this]
    exact .nil
  | v :: its, k, h, hl => by
    have hk : k < x.cps.toList.length := by simp at hl ⊢; omega
    rw [List.drop_eq_getElem_cons hk]
    obtain ⟨c, u, hc, rfl⟩ := h 0 v rfl
    rw [Nat.add_zero] at hc
    have ec : x.cps.toList[k] = c := by
      have : x.cps.toList[k]? = some c := by rw [Array.getElem?_toList]; exact hc
      rw [List.getElem?_eq_getElem hk] at this
      exact Option.some.inj this
    refine .cons ?_ (vals_signs its (k + 1) (fun j w e => ?_) (by simp at hl ⊢; omega))
    · rw [ec]
      exact ⟨u, rfl⟩
    · have := h (j + 1) w (by simpa using e)
      rw [show k + (j + 1) = k + 1 + j by omega] at this
      exact this
theorem call_list_strV {X : Cx} (hc : X.calm = true) : CallR X (.type "list") (fun xs H Q => ∃ z, xs = [.str z] ∧ z.cps.size ≤ sizeLine ∧ ∀ l, H l = none → Q (.ref l) (upd H l (.lst ((signs z).map V.str)))) := by
  intro pins s σ H xs us Q I r h
  obtain ⟨z, rfl, hz, q⟩ := h
  obtain ⟨u, rfl, t, rfl⟩ := vals1 r
  refine PySem.call_list_str (I.ok.hd hc) z t (fun h' tk acc' c' kp e hi => ?_) hz
  obtain ⟨h1, h2⟩ := hi
  have rv := vals_signs (x := z) acc'.toList 0 (fun j v e => by rw [Nat.zero_add]; exact h2 j v (by rw [← Array.getElem?_toList]; exact e)) (by simp [h1])
  rw [List.drop_zero] at rv
  refine ⟨.ref s.heap.objs.size, _, I.laid (t' := tk) kp (Nat.le_refl _) (show ObjOk X.prog X.w _ h' _ (.lst ((signs z).map V.str)) from ⟨?_, acc'.toList, c', rv, e⟩), rfl, q _ (I.hok.fresh (Nat.le_refl _))⟩
  rw [List.length_map]
  unfold signs
  rw [List.length_map, Array.length_toList]
  exact hz
end L2.K57
set_option Elab.async false
set_option linter.all false
set_option maxRecDepth 100000
set_option maxHeartbeats 4000000
namespace L2.K57
open PySem PySem.Spec PyProof.Rows L2.EV
/-- all that was there stands as it stood, but p -/
def Old (p : Addr) (H H' : Hp) : Prop := ∀ b o, b ≠ p → H b = some o → H' b = some o
theorem Old.refl (p : Addr) (H : Hp) : Old p H H := fun _ _ _ e => e
theorem Old.trans {p : Addr} {H H1 H2 : Hp} (a : Old p H H1) (b : Old p H1 H2) : Old p H H2 := fun c o n e => b c o n (a c o n e)
theorem Old.of_but {p : Addr} {H H' : Hp} (b : But p H H') : Old p H H' := fun c o n e => (b c n).trans e
theorem Old.of_same {p : Addr} {H H' : Hp} (b : Same H H') : Old p H H' := fun c o _ e => b c o e
theorem Old.free {p q : Addr} {H H' : Hp} {o : HO} (b : Old p H H') (hp : H' p = some o) (h : H' q = none) : H q = none := by
  cases e : H q with
  | none => rfl
  | some u =>
    have ne : q ≠ p := fun z => by rw [z, hp] at h; cases h
    rw [b q u ne e] at h
    cases h
theorem PurseAt.upd_ne {H : Hp} {p q : Addr} {n : Nat} {o : HO} (h : PurseAt H p n) (ne : p ≠ q) : PurseAt (upd H q o) p n := h.but but_upd ne
/-! ### the first sign of abc that is not among few -/
theorem abc_signs : (signs abc).length = 26 := by decide +kernel
theorem abc_nodup : (signs abc).Nodup := by decide +kernel
theorem abc_word : ∀ y ∈ signs abc, y.length = 1 ∧ ∀ c ∈ y.cps.toList, 97 ≤ c ∧ c ≤ 122 := by decide +kernel
def fresh (ws : List Str) : List Str := (signs abc).filter fun y => !ws.any fun z => z == y
theorem nodup_le : ∀ (l m : List Str), l.Nodup → (∀ y ∈ l, y ∈ m) → l.length ≤ m.length
  | [], _, _, _ => Nat.zero_le _
  | x :: l, m, h, hs => by
    obtain ⟨h1, h2⟩ := List.nodup_cons.mp h
    have hm := hs x List.mem_cons_self
    have := nodup_le l (m.erase x) h2 fun y hy => (List.mem_erase_of_ne (fun e => h1 (by rw [← e]; exact hy))).mpr (hs y (List.mem_cons_of_mem _ hy))
    rw [List.length_erase_of_mem hm] at this
    have := List.length_pos_of_mem hm
    rw [List.length_cons]
    omega
theorem fresh_some {ws : List Str} (h : ws.length < 26) : ∃ y r, fresh ws = y :: r ∧ Word y ∧ y ∉ ws := by
  have ne : fresh ws ≠ [] := fun e => by
    have all : ∀ y ∈ signs abc, y ∈ ws := fun y hy => by
      have := List.filter_eq_nil_iff.mp e y hy
      simpa using this
    have := nodup_le _ _ abc_nodup all
    rw [abc_signs] at this
    omega
  cases e : fresh ws with
  | nil => exact absurd e ne
  | cons y r =>
    have hy : y ∈ fresh ws := by rw [e]; exact List.mem_cons_self
    obtain ⟨h1, h2⟩ := List.mem_filter.mp hy
    obtain ⟨l1, l2⟩ := abc_word y h1
    exact ⟨y, r, rfl, ⟨by omega, l2⟩, fun hm => by simp at h2; exact h2 y hm rfl⟩
/-! ### a word with one sign exchanged -/
theorem word_cut {b : Str} {s : Nat} {c : Nat} (hb : Word b) (hs : s < b.length) (hc : 97 ≤ c ∧ c ≤ 122) : Word (cutS b none (some (s : Int)) ++ (⟨#[c]⟩ : Str) ++ cutS b (some ((s : Int) + 1)) none) := by
  have hl : b.cps.toList.length = b.length := by rw [Array.length_toList]; rfl
  have e1 : (cutS b none (some (s : Int))).cps.toList = b.cps.toList.take s := by
    unfold cutS
    rw [HT.sIx_none, HT.sIx_nat, List.drop_zero, Nat.sub_zero, Nat.min_eq_left (by omega)]
  have e2 : (cutS b (some ((s : Int) + 1)) none).cps.toList = b.cps.toList.drop (s + 1) := by
    unfold cutS
    rw [HT.sIx_none, show ((s : Int) + 1) = ((s + 1 : Nat) : Int) by omega, HT.sIx_nat, Nat.min_eq_left (by omega)]
    exact List.take_of_length_le (by rw [List.length_drop]; omega)
  have e3 : (cutS b none (some (s : Int)) ++ (⟨#[c]⟩ : Str) ++ cutS b (some ((s : Int) + 1)) none).cps.toList = b.cps.toList.take s ++ [c] ++ b.cps.toList.drop (s + 1) := by
    rw [← e1, ← e2]
    show ((_ ++ (#[c] : Array Nat)) ++ _ : Array Nat).toList = _
    rw [Array.toList_append, Array.toList_append]
  refine ⟨?_, fun x hx => ?_⟩
  · have : (cutS b none (some (s : Int)) ++ (⟨#[c]⟩ : Str) ++ cutS b (some ((s : Int) + 1)) none).length = b.length := by
      show Array.size _ = _
      rw [← Array.length_toList, e3, List.length_append, List.length_append, List.length_take, List.length_drop, hl]
      show min s b.length + 1 + _ = _
      omega
    rw [this]
    exact hb.1
  · rw [e3] at hx
    rcases List.mem_append.mp hx with hx | hx
    · rcases List.mem_append.mp hx with hx | hx
      · exact hb.2 x (List.mem_of_mem_take hx)
      · rw [List.mem_singleton.mp hx]; exact hc
    · exact hb.2 x (List.mem_of_mem_drop hx)
end L2.K57
set_option Elab.async false
set_option linter.all false
set_option maxRecDepth 100000
set_option maxHeartbeats 4000000
namespace L2.K57
open PySem PySem.Spec PyProof.Rows L2.EV
abbrev sWords : Stmt := top 32
abbrev nWords : List Str := ["_law_purse_here", "_law_many", "_law_base", "_law_near", "_law_spot", "_law_found", "_law_turn", "_law_word_here", "_law_letter"]
theorem cut_len (b : Str) (lo hi : Option Int) : (cutS b lo hi).length ≤ b.length := by
  have hl : b.cps.toList.length = b.length := by rw [Array.length_toList]; rfl
  show Array.size _ ≤ _
  rw [← Array.length_toList]
  unfold cutS
  rw [List.length_take, List.length_drop]
  omega
theorem inV_str (x : Str) (ws : List Str) : inV (.str x) (ws.map V.str) = ws.any fun z => z == x := by
  unfold inV
  rw [List.any_map]
  rfl
theorem flat_strs (ws : List Str) : (ws.map V.str).all flatV = true := by
  rw [List.all_map]
  exact List.all_eq_true.mpr fun _ _ => rfl
theorem scWords : FnScope nWords ["_law_purse_here", "_law_many"] (defScope sWords) := ⟨rfl, rfl, rfl, by decide +kernel, rfl, by decide +kernel, by decide +kernel⟩
def spWords : Sp := fun vs H Q _ => ∃ (p : Addr) (m n : Nat), vs = [.ref p, .int (m : Int)] ∧ m ≤ 8 ∧ PurseAt H p n ∧ n < 2 ^ 39 ∧
  ∀ (l : Addr) (ws : List Str) (H' : Hp), ws.length = m → (∀ w ∈ ws, Word w) → ws.Nodup → H' l = some (.lst (ws.map V.str)) → l ≠ p → PurseAt H' p (n + 110) → Old p H H' → H l = none → Q (.ref l) H'
section
variable {P : Program} {w : World} {K : PySem.W.Frag} {mg : Str → Option Value} {base : Heap} {f fD fW : Addr} {fd fdD fdW : FuncData}
theorem ok_words (F : FnP K "_law_words" sWords f fd) (GD : FnOk P w K mg base CX0 2 fD fdD ["_law_purse_here", "_law_many"] spDraw) (bD : Binds K fdD ["_law_purse_here", "_law_many"] []) (kD : PySem.W.keepIn K (.ref fD) = true)
    (gD : mg "_law_draw" = some (.ref fD)) (GW : FnOk P w K mg base CX0 3 fW fdW ["_law_purse_here"] spWord) (bW : Binds K fdW ["_law_purse_here"] []) (kW : PySem.W.keepIn K (.ref fW) = true) (gW : mg "_law_word" = some (.ref fW))
    (mR : mg "range" = none) (mL : mg "len" = none) (mLi : mg "list" = none) : FnOk P w K mg base CX0 4 f fd ["_law_purse_here", "_law_many"] spWords := by
  refine F.ok scWords (fun vs H Q E h => ?_) (fun cdv A outer s H vs Q E hr h => ?_)
  · obtain ⟨p, m, n, rfl, _⟩ := h
    rfl
  · obtain ⟨p, m, n, rfl, hm, hp, hn, k⟩ := h
    have hr2 := hr.mono (show 2 ≤ 3 by decide)
    refine ⟨_, PSs.nox (pss_cons (ps_par (i := 2) (j := 3) rfl scWords.nd rfl rfl (by decide) rfl rfl (pa_cons (pe_call GW hr (by rfl) gW kW bW .nil pass0 (pa_cons (pv 0) pa_nil))
          (pa_cons (pe_cmpR op_eq (pe_call GD hr2 (by rfl) gD kD bD .nil pass0 (pa_cons (pv 0) (pa_cons pe_int pa_nil))) pe_int (nomark _)) pa_nil)) (by rfl))
        (pss_cons (ps_asg (pe_tup (pa_cons (pe_call GD hr2 (by rfl) gD kD bD .nil pass0 (pa_cons (pv 0) (pa_cons (pe_callB call_len_str (by rfl) mL PySem.boot_len (pa_cons (pv 2) pa_nil)) pa_nil)))
          (pa_cons (pe_lst pa_nil) pa_nil))) (pg_tup rfl (pgs_cons (pg_name (i := 4) scWords.nd rfl (Or.inl rfl)) (pgs_cons (pg_name (i := 5) scWords.nd rfl (by first | exact Or.inl rfl | exact Or.inr rfl)) pgs_nil))))
        (pss_cons (ps_for PassesOwn.never rfl (pi_range1 (by rfl) mR (pa_cons (pv 1) pa_nil)) (pg_name (i := 6) scWords.nd rfl (Or.inl rfl))
          (pss_cons (ps_set (i := 7) scWords.nd rfl (Or.inl rfl) (pe_op op_add_str (pe_op op_add_str (pe_slice sl_str (pv 2) po_none (po_some (pv 4))) (pe_ix ix_str pe_str (pe_call GD hr2 (by rfl) gD kD bD .nil pass0 (pa_cons (pv 0) (pa_cons pe_int pa_nil))) (fun _ _ => rfl)))
              (pe_slice sl_str (pv 2) (po_some (pe_op op_add (pv 4) pe_int)) po_none)))
          (pss_cons (ps_if (pt_not (pt_val (pv 3))) (pss_one (ps_set (i := 7) scWords.nd rfl (Or.inl rfl) (pe_call GW hr (by rfl) gW kW bW .nil pass0 (pa_cons (pv 0) pa_nil)))) pss_nil)
          (pss_cons (ps_if (pt_cmpR op_in_seq (pv 7) (pv 5) (by rfl)) (pss_one (ps_set (i := 7) scWords.nd rfl (Or.inl rfl) (pe_ix ix_list
              (pe_lc (own := [("_law_letter", 8)]) (g := gName 8) (tt := tTest (tOp (rIn K true) (tVar 8) (tVar 5))) (by rfl) scWords.nd (pi_list (pe_callTy (call_list_strV rfl) (by rfl) mLi (by decide +kernel) (pa_cons pe_str pa_nil)))
                (blkOk_by (own := [("_law_letter", 8)]) (N := nWords) (sc := defScope sWords) (by decide +kernel)) (fun _ _ _ _ _ => pg_name (i := 8) scWords.nd rfl (Or.inl rfl))
                (fun _ _ _ _ _ => pts_one (pt_cmpR op_notIn_seq (pv 8) (pv 5) (by rfl))) (fun _ _ _ _ _ => pv 8)) pe_int (fun _ _ => rfl)))) pss_nil)
          (pss_one (ps_expr (pe_bm PySem.F.plainAttrs_list PySem.F.slot_list_append PySem.F.type_list_append mt_append (pv 5) (pa_cons (pv 7) pa_nil))))))))
        (pss_one (ps_ret (pv 5)))))), ?_⟩
    refine ⟨_, rfl, p, n, rfl, hp, by omega, fun b H1 hb p1 o1 => ?_⟩
    refine ⟨_, rfl, p, 3, n + 10, rfl, ⟨by decide, by decide⟩, p1, by omega, fun r H2 r0 r1 p2 b2 => ?_⟩
    refine ⟨rfl, _, _, rfl, ?_⟩
    generalize decide (V.int r = V.int 0) = near
    have hbl : 1 ≤ b.length ∧ b.length ≤ 8 := hb.1
    refine ⟨_, rfl, _, rfl, b, rfl, Nat.le_of_lt (small1000 (by omega)), p, (b.length : Int), n + 11, rfl, ⟨by omega, by omega⟩, p2, by omega, fun sp H3 s0 s1 p3 b3 => ?_⟩
    refine ⟨Nat.zero_le _, fun fo hfo => ?_⟩
    have o3 : Old p H H3 := (Old.trans o1 (.of_but b2)).trans (.of_but b3)
    have pe : ∃ o, H3 p = some o := p3.some
    obtain ⟨o3p, ho3p⟩ := pe
    have nfo : p ≠ fo := ne_of_none ho3p hfo
    have hfo0 : H fo = none := o3.free ho3p hfo
    refine ⟨by show 2 ≤ sizeLine; decide, fun tp htp => ?_⟩
    have sT : Same H3 (upd (upd H3 fo (.lst [])) tp (.tup [.int sp, .ref fo])) := (same_upd hfo).trans (same_upd htp)
    have gF : (upd (upd H3 fo (.lst [])) tp (.tup [.int sp, .ref fo])) fo = some (.lst []) := (same_upd htp) _ _ upd_same
    refine ⟨tp, _, rfl, SqT.of upd_same, rfl, _, _, rfl, _, _, rfl, rfl, ?_⟩
    generalize upd (upd H3 fo (.lst [])) tp (.tup [.int sp, .ref fo]) = H4 at sT gF
    have p4 := p3.same sT
    have o4 : Old p H H4 := o3.trans (.of_same sT)
    obtain ⟨q, rfl⟩ := Int.eq_ofNat_of_zero_le s0
    have hq : q < b.length := by omega
    refine ⟨_, rfl, (m : Int), rfl, by omega, by omega, ?_⟩
    refine for_range (fun i σ H' => ∃ (v6 v7 : Option V) (ws : List Str), σ = [some (.ref p), some (.int (m : Int)), some (.str b), some (.bl near), some (.int (q : Int)), some (.ref fo), v6, v7, none] ∧
      ws.length = i ∧ (∀ w ∈ ws, Word w) ∧ ws.Nodup ∧ H' fo = some (.lst (ws.map V.str)) ∧ PurseAt H' p (n + 12 + 11 * i) ∧ Old p H H') ⟨none, none, [], rfl, rfl, fun _ z => absurd z List.not_mem_nil, List.nodup_nil, gF, p4, o4⟩ ?_ ?_
    · rintro i σ H5 hi ⟨v6, v7, ws, rfl, lw, ww, nd, g5, p5, o5⟩
      have hi' : i < 8 := by omega
      -- what stands behind the choice of the word
      have last : ∀ (D : Ends) (x : Str) (v : Option V) (H6 : Hp), Word x → x ∉ ws → H6 fo = some (.lst (ws.map V.str)) → PurseAt H6 p (n + 12 + 11 * i + 11) → Old p H H6 →
          (∀ H7, H7 fo = some (.lst ((ws ++ [x]).map V.str)) → PurseAt H7 p (n + 12 + 11 * (i + 1)) → Old p H H7 → D.nx [some (.ref p), some (.int (m : Int)), some (.str b), some (.bl near), some (.int (q : Int)), some (.ref fo), v, some (.str x), none] H7) →
          (tDrop (tBM K "list" rAppend (tVar 5) (tCons (tVar 7) tNil))) D [some (.ref p), some (.int (m : Int)), some (.str b), some (.bl near), some (.int (q : Int)), some (.ref fo), v, some (.str x), none] H6 := by
        intro D x v H6 hx hn6 g6 p6 o6 kk
        refine ⟨_, rfl, .inl ⟨rfl, _, SqL.of g6⟩, _, rfl, fo, _, _, rfl, rfl, g6, ?_, ?_⟩
        · rw [List.length_map, lw]
          exact small1000 (by omega)
        · refine kk _ ?_ ((p6.upd_ne nfo).up (by omega)) fun c o nc e => ?_
          · rw [upd_same, List.map_append]
            rfl
          · rw [upd_ne (ne_of_none e hfo0)]
            exact o6 c o nc e
      -- a word that stands already is exchanged
      have swap : ∀ (D : Ends) (x : Str) (v : Option V) (H6 : Hp), Word x → H6 fo = some (.lst (ws.map V.str)) → PurseAt H6 p (n + 12 + 11 * i + 11) → Old p H H6 →
          (∀ (y : Str) H7, Word y → y ∉ ws → H7 fo = some (.lst ((ws ++ [y]).map V.str)) → PurseAt H7 p (n + 12 + 11 * (i + 1)) → Old p H H7 → D.nx [some (.ref p), some (.int (m : Int)), some (.str b), some (.bl near), some (.int (q : Int)), some (.ref fo), v, some (.str y), none] H7) →
          (tSeq (tIfS (tTest (tOp (rIn K false) (tVar 7) (tVar 5))) (tAsg (tOp (rIxL K) (tLc (iList K (tCB (fun xs H Q => ∃ z, xs = [.str z] ∧ z.cps.size ≤ sizeLine ∧ ∀ l, H l = none → Q (.ref l) (upd H l (.lst ((signs z).map V.str)))) (tCons (tC (.str abc)) tNil)))
            (gName 8) (tTest (tOp (rIn K true) (tVar 8) (tVar 5))) (tVar 8) [8]) (tC (.int 0))) (gName 7)) tNext) (tDrop (tBM K "list" rAppend (tVar 5) (tCons (tVar 7) tNil))))
            D [some (.ref p), some (.int (m : Int)), some (.str b), some (.bl near), some (.int (q : Int)), some (.ref fo), v, some (.str x), none] H6 := by
        intro D x v H6 hx g6 p6 o6 kk
        refine ⟨_, rfl, _, rfl, fo, ws.map V.str, rfl, .inl (SqL.of g6), rfl, flat_strs ws, _, rfl, ?_⟩
        rw [if_neg (by decide), inV_str]
        refine ite2 (fun hin => ?_) (fun hout => ?_)
        · refine ⟨abc, rfl, by decide +kernel, fun la hla => ⟨la, rfl, ⟨_, SqL.of upd_same⟩, fun D2 hD2 => ?_⟩⟩
          have s7 := same_upd (o := .lst ((signs abc).map V.str)) hla
          have g7 : upd H6 la (.lst ((signs abc).map V.str)) la = some (.lst ((signs abc).map V.str)) := upd_same
          generalize upd H6 la (.lst ((signs abc).map V.str)) = H7 at s7 g7 hD2
          refine lc_list (K := K) (a := la) (xs := (signs abc).map V.str) (fun j H' => Same H7 H' ∧ H' D2 = some (.lst ((((signs abc).take j).filter fun y => !ws.any fun z => z == y).map V.str))) ⟨same_upd hD2, upd_same⟩ (fun j H' _ ⟨sA, _⟩ => SqL.of (sA _ _ g7)) ?_ ?_
          · rintro j y0 H' hj ⟨sA, gA⟩
            have g5' := sA _ _ (s7 _ _ g6)
            rw [List.getElem?_map] at hj
            cases ej : (signs abc)[j]? with
            | none => rw [ej] at hj; cases hj
            | some y =>
              rw [ej] at hj
              obtain rfl : V.str y = y0 := Option.some.inj hj
              have et : (signs abc).take (j + 1) = (signs abc).take j ++ [y] := by rw [List.take_succ, ej]; rfl
              refine ⟨rfl, _, rfl, _, rfl, fo, ws.map V.str, rfl, .inl (SqL.of g5'), rfl, flat_strs ws, _, rfl, ?_⟩
              rw [if_pos rfl, inV_str]
              refine ite2 (fun ht => ?_) (fun hf => ?_)
              · refine ⟨_, rfl, _, gA, ?_, fun c o e => ?_, ?_⟩
                · rw [List.length_map]
                  refine small1000 (Nat.le_trans (List.length_filter_le _ _) (Nat.le_trans (List.length_take_le _ _) ?_))
                  have : j < (signs abc).length := (List.getElem?_eq_some_iff.mp ej).1
                  rw [abc_signs] at this
                  omega
                · rw [upd_ne (ne_of_none e hD2)]
                  exact sA c o e
                · rw [upd_same, et, List.filter_append, List.map_append]
                  simp only [List.filter_cons, List.filter_nil, ht, if_true, List.map_cons, List.map_nil]
              · refine ⟨sA, ?_⟩
                rw [gA, et, List.filter_append]
                simp only [List.filter_cons, List.filter_nil, hf, if_false, List.append_nil, Bool.false_eq_true]
          · rintro H8 ⟨sA, gA⟩
            rw [List.length_map, List.take_length] at gA
            obtain ⟨y, r, ey, wy, ny⟩ := fresh_some (ws := ws) (by omega)
            have gB : H8 D2 = some (.lst ((y :: r).map V.str)) := by rw [gA, ← ey]; rfl
            refine ⟨D2, _, _, .str y, rfl, rfl, SqL.of gB, atI_nat (j := 0) rfl, ?_⟩
            exact last D y v H8 wy ny (sA _ _ (s7 _ _ g6)) (p6.same (s7.trans sA)) (o6.trans (.of_same (s7.trans sA))) (fun H9 a1 a2 a3 => kk y H9 wy ny a1 a2 a3)
        · have hn6 : x ∉ ws := fun hm => hout (List.any_eq_true.mpr ⟨x, hm, by simp⟩)
          exact last D x v H6 hx hn6 g6 p6 o6 (fun H9 a1 a2 a3 => kk x H9 hx hn6 a1 a2 a3)
      refine ⟨_, rfl, _, rfl, _, rfl, b, rfl, Nat.le_of_lt (small1000 (by omega)), _, rfl, p, 26, n + 12 + 11 * i, rfl, ⟨by decide, by decide⟩, p5, by omega, fun r2 H6 c0 c1 p6 b6 => ?_⟩
      obtain ⟨j, rfl⟩ := Int.eq_ofNat_of_zero_le c0
      obtain ⟨c, hc, hcb⟩ := sign_at (i := j) (by omega)
      refine ⟨abc, j, c, rfl, rfl, (by decide +kernel), atI_nat hc, ?_⟩
      have k1 := cut_len b none (some (q : Int))
      have k2 := cut_len b (some ((q : Int) + 1)) none
      have k3 : (⟨#[c]⟩ : Str).length = 1 := rfl
      refine ⟨_, _, rfl, rfl, Nat.le_of_lt (small1000 (by omega)), ?_⟩
      refine ⟨_, rfl, _, rfl, _, _, rfl, rfl, _, rfl, b, rfl, Nat.le_of_lt (small1000 (by omega)), ?_⟩
      refine ⟨_, _, rfl, rfl, Nat.le_of_lt (small1000 (by rw [len_app]; omega)), ?_⟩
      have wc := word_cut hb hq hcb
      have o6 : Old p H H6 := o5.trans (.of_but b6)
      have g6 : H6 fo = some (.lst (ws.map V.str)) := (b6 fo (Ne.symm nfo)).trans g5
      have fin : ∀ (y : Str) (H7 : Hp), Word y → y ∉ ws → H7 fo = some (.lst ((ws ++ [y]).map V.str)) → PurseAt H7 p (n + 12 + 11 * (i + 1)) → Old p H H7 →
          ∃ (v6 v7 : Option V) (ws' : List Str), [some (.ref p), some (.int (m : Int)), some (.str b), some (.bl near), some (.int (q : Int)), some (.ref fo), some (.int (0 + (i : Int))), some (.str y), none] = [some (.ref p), some (.int (m : Int)), some (.str b), some (.bl near), some (.int (q : Int)), some (.ref fo), v6, v7, none] ∧
            ws'.length = i + 1 ∧ (∀ w ∈ ws', Word w) ∧ ws'.Nodup ∧ H7 fo = some (.lst (ws'.map V.str)) ∧ PurseAt H7 p (n + 12 + 11 * (i + 1)) ∧ Old p H H7 := fun y H7 wy ny a1 a2 a3 =>
        ⟨_, _, ws ++ [y], rfl, by simp [lw], fun z hz => by
          rcases List.mem_append.mp hz with hz | hz
          · exact ww z hz
          · rw [List.mem_singleton.mp hz]; exact wy, by
          rw [List.nodup_append]
          exact ⟨nd, by simp, fun a ha b hb e => ny (by rw [← List.mem_singleton.mp hb, ← e]; exact ha)⟩, a1, a2, a3⟩
      refine ⟨_, rfl, near, rfl, ?_⟩
      cases near with
      | true =>
        refine iteF ?_
        exact swap _ _ _ H6 wc g6 (p6.up (by omega)) o6 fin
      | false =>
        refine iteT ?_
        refine ⟨_, rfl, p, n + 12 + 11 * i + 1, rfl, p6, by omega, fun x H7 hx p7 o7 => ?_⟩
        exact swap _ x _ H7 hx (o7 fo _ (Ne.symm nfo) g6) (p7.up (by omega)) (o6.trans o7) fin
    · rintro σ H5 ⟨v6, v7, ws, rfl, lw, ww, nd, g5, p5, o5⟩
      refine ⟨_, rfl, ?_⟩
      exact k fo ws H5 lw ww nd g5 (Ne.symm nfo) (p5.up (by omega)) o5 hfo0
end
end L2.K57
set_option Elab.async false
set_option linter.all false
set_option maxRecDepth 100000
set_option maxHeartbeats 4000000
namespace L2.K57
open PySem PySem.Spec PyProof.Rows L2.EV
/-- a def of the top that keeps a promise -/
structure Got (P : Program) (w : World) (K : PySem.W.Frag) (mg : Str → Option Value) (base : Heap) (k : Nat) (x : Str) (ps : List Str) (sp : Sp) : Prop where
  ex : ∃ f fd, FnOk P w K mg base CX0 k f fd ps sp ∧ Binds K fd ps [] ∧ PySem.W.keepIn K (.ref f) = true ∧ mg x = some (.ref f)
section
variable {X : Cx} {k j : Nat} {x : Str} {ps : List Str} {sp : Sp} {p pos : Pos} {e : Expr} {es : List Expr} {t : TA}
theorem pe_got (g : Got X.prog X.w X.K X.mg X.base k x ps sp) (hr : Room j X.A) (ha : PA X (e :: es) t) (hg : Gl X x := by rfl) (hk : k ≤ j := by decide) (hdb : (x == ("__debug__" : Str)) = false := by decide)
    (he : starEach (e :: es) X.env = (false, eval e X.env) :: starEach es X.env := by rfl) (hpl : (backTo pos (starEach es X.env)).any (·.1) = false := by rfl) : PE X (.Call (.Name x p) (e :: es) [] pos) (tCall sp [] E0 t) := by
  obtain ⟨f, fd, G, b, kp, m⟩ := g.ex
  exact pe_call G (hr.mono hk) hg m kp b .nil pass0 ha hdb he hpl
end
end L2.K57
set_option Elab.async false
set_option linter.all false
set_option maxRecDepth 100000
set_option maxHeartbeats 4000000
namespace L2.K57
open PySem PySem.Spec PyProof.Rows L2.EV
section
variable {K : PySem.W.Frag} {a b : Addr} {xs ys : List V} {g : TG} {tt : TT} {te : TE} {vs : List Nat} {σ : St} {H1 : Hp} {D : Addr} {Qd : Hp → Prop}
/-- a new list over the pairs of two lists of one length -/
theorem lc_pairsL (hl : xs.length = ys.length) (Pv : Nat → Hp → Prop) (h0 : Pv 0 (upd H1 D (.lst []))) (hq : ∀ i H, Pv i H → SqL K H a xs ∧ SqL K H b ys)
    (hs : ∀ i x y T H, xs[i]? = some x → ys[i]? = some y → Pv i H → H T = none → g (.ref T) (wipe σ vs) (upd H T (.tup [x, y])) fun σ2 H2 => wipe σ2 vs = wipe σ vs ∧ tt σ2 H2 fun c H3 =>
      if c = true then te σ2 H3 fun z H4 => ∃ acc, H4 D = some (.lst acc) ∧ acc.length < sizeLine ∧ Pv (i + 1) (upd H4 D (.lst (acc ++ [z]))) else Pv (i + 1) H3) (hd : ∀ H, Pv xs.length H → Qd H) :
    ∃ W : Nat → Nat → Hp → Prop, (∃ m, W 0 m (upd H1 D (.lst []))) ∧ ∀ i m H, W i m H →
      ((Itz K a b).stop i H ∧ Qd H) ∨ ((Itz K a b).go i H ∧ ∃ Nx : Hp → Prop, (∀ H', Nx H' → ∃ m', m' < m ∧ W (i + 1) m' H') ∧ ∀ x H', (Itz K a b).yld i H x H' → g x (wipe σ vs) H' fun σ2 H2 => wipe σ2 vs = wipe σ vs ∧ tt σ2 H2 fun c H3 =>
        if c = true then te σ2 H3 fun z H4 => ∃ acc, H4 D = some (.lst acc) ∧ acc.length < sizeLine ∧ Nx (upd H4 D (.lst (acc ++ [z]))) else Nx H3) := by
  refine ⟨fun i m H => m + i = xs.length ∧ Pv i H, ⟨xs.length, rfl, h0⟩, ?_⟩
  rintro i m H ⟨hm, p⟩
  obtain ⟨qa, qb⟩ := hq i H p
  rcases Nat.lt_or_ge i xs.length with hlt | hge
  · have ex : xs[i]? = some xs[i] := List.getElem?_eq_getElem hlt
    have ey : ys[i]? = some (ys[i]'(hl ▸ hlt)) := List.getElem?_eq_getElem _
    refine .inr ⟨⟨xs, ys, _, _, qa, qb, ex, ey⟩, Pv (i + 1), fun H' p' => ⟨xs.length - (i + 1), by omega, by omega, p'⟩, ?_⟩
    rintro v H' ⟨T, x, y, rfl, hT, rfl, fx, fy⟩
    exact hs i x y T H (fx xs qa) (fy ys qb) p hT
  · have e : i = xs.length := by omega
    rw [e] at p
    exact .inl ⟨⟨xs, ys, qa, qb, .inl hge⟩, hd H p⟩
/-- the same of two tuples -/
theorem lc_pairsT (hl : xs.length = ys.length) (Pv : Nat → Hp → Prop) (h0 : Pv 0 (upd H1 D (.lst []))) (hq : ∀ i H, Pv i H → SqT K H a xs ∧ SqT K H b ys)
    (hs : ∀ i x y T H, xs[i]? = some x → ys[i]? = some y → Pv i H → H T = none → g (.ref T) (wipe σ vs) (upd H T (.tup [x, y])) fun σ2 H2 => wipe σ2 vs = wipe σ vs ∧ tt σ2 H2 fun c H3 =>
      if c = true then te σ2 H3 fun z H4 => ∃ acc, H4 D = some (.lst acc) ∧ acc.length < sizeLine ∧ Pv (i + 1) (upd H4 D (.lst (acc ++ [z]))) else Pv (i + 1) H3) (hd : ∀ H, Pv xs.length H → Qd H) :
    ∃ W : Nat → Nat → Hp → Prop, (∃ m, W 0 m (upd H1 D (.lst []))) ∧ ∀ i m H, W i m H →
      ((RZ.ItzT K a b).stop i H ∧ Qd H) ∨ ((RZ.ItzT K a b).go i H ∧ ∃ Nx : Hp → Prop, (∀ H', Nx H' → ∃ m', m' < m ∧ W (i + 1) m' H') ∧ ∀ x H', (RZ.ItzT K a b).yld i H x H' → g x (wipe σ vs) H' fun σ2 H2 => wipe σ2 vs = wipe σ vs ∧ tt σ2 H2 fun c H3 =>
        if c = true then te σ2 H3 fun z H4 => ∃ acc, H4 D = some (.lst acc) ∧ acc.length < sizeLine ∧ Nx (upd H4 D (.lst (acc ++ [z]))) else Nx H3) := by
  refine ⟨fun i m H => m + i = xs.length ∧ Pv i H, ⟨xs.length, rfl, h0⟩, ?_⟩
  rintro i m H ⟨hm, p⟩
  obtain ⟨qa, qb⟩ := hq i H p
  rcases Nat.lt_or_ge i xs.length with hlt | hge
  · have ex : xs[i]? = some xs[i] := List.getElem?_eq_getElem hlt
    have ey : ys[i]? = some (ys[i]'(hl ▸ hlt)) := List.getElem?_eq_getElem _
    refine .inr ⟨⟨xs, ys, _, _, qa, qb, ex, ey⟩, Pv (i + 1), fun H' p' => ⟨xs.length - (i + 1), by omega, by omega, p'⟩, ?_⟩
    rintro v H' ⟨T, x, y, rfl, hT, rfl, fx, fy⟩
    exact hs i x y T H (fx xs qa) (fy ys qb) p hT
  · have e : i = xs.length := by omega
    rw [e] at p
    exact .inl ⟨⟨xs, ys, qa, qb, .inl hge⟩, hd H p⟩
end
end L2.K57
set_option Elab.async false
set_option linter.all false
set_option maxRecDepth 100000
set_option maxHeartbeats 4000000
namespace L2.K57
open PySem PySem.Spec PyProof.Rows L2.EV
/-! ### alike to the depth n -/
inductive Alk (H : Hp) : Nat → V → V → Prop
  | flat {n : Nat} {v : V} : flatV v = true → Alk H (n + 1) v v
  | lst {n : Nat} {a b : Addr} {xs ys : List V} : H a = some (.lst xs) → H b = some (.lst ys) → xs.length = ys.length → xs.length ≤ 900 → (∀ (i : Nat) (x y : V), xs[i]? = some x → ys[i]? = some y → Alk H n x y) → Alk H (n + 1) (.ref a) (.ref b)
  | tup {n : Nat} {a b : Addr} {xs ys : List V} : H a = some (.tup xs) → H b = some (.tup ys) → xs.length = ys.length → xs.length ≤ 900 → (∀ (i : Nat) (x y : V), xs[i]? = some x → ys[i]? = some y → Alk H n x y) → Alk H (n + 1) (.ref a) (.ref b)
theorem Alk.same {H H' : Hp} (s : Same H H') : ∀ {n : Nat} {x y : V}, Alk H n x y → Alk H' n x y := fun {n x y} h => by
  induction h with
  | flat h => exact .flat h
  | lst h1 h2 h3 h4 _ ih => exact .lst (s _ _ h1) (s _ _ h2) h3 h4 ih
  | tup h1 h2 h3 h4 _ ih => exact .tup (s _ _ h1) (s _ _ h2) h3 h4 ih
theorem any_tt {K : PySem.W.Frag} {T : String} {b c : Bool} (h1 : kitB T "list" = some b) (h2 : kitB T "tuple" = some c) : PySem.W.kitAny K (.type T) [.type "list", .type "tuple"] = some (b || c) := by
  refine kitAny_cons (kit_ty h1) (fun hb => ?_) (fun hb => by rw [hb]; rfl)
  refine kitAny_cons (kit_ty h2) (fun hc => ?_) (fun hc => by rw [hb, hc]; rfl)
  rw [hb, hc]
  exact kitAny_nil
abbrev sEx : Stmt := top 30
abbrev pEx : List Str := ["_law_one", "_law_other"]
abbrev nEx : List Str := ["_law_one", "_law_other", "_law_alike", "_law_a", "_law_b", "_law_key"]
theorem scEx : FnScope nEx pEx (defScope sEx) := ⟨rfl, rfl, rfl, by decide +kernel, rfl, by decide +kernel, by decide +kernel⟩
def spEx (n : Nat) : Sp := fun vs H Q _ => ∃ x y, vs = [x, y] ∧ Alk H n x y ∧ ∀ H', Same H H' → Q (.bl true) H'
section
variable {P : Program} {w : World} {K : PySem.W.Frag} {mg : Str → Option Value} {base : Heap} {f : Addr} {fd : FuncData}
theorem ok_ex_step {n : Nat} (F : FnP K "_law_exact" sEx f fd) (G : Got P w K mg base (n + 1) "_law_exact" pEx (spEx n)) (mIs : mg "isinstance" = none) (mL : mg "len" = none) (mA : mg "all" = none) (mZ : mg "zip" = none) (mLi : mg "list" = none) (mT : mg "tuple" = none) (mD : mg "dict" = none) (mB : mg "bool" = none) :
    FnOk P w K mg base CX0 (n + 2) f fd pEx (spEx (n + 1)) := by
  refine F.ok scEx (fun vs H Q E h => ?_) (fun cdv A outer s H vs Q E hr h => ?_)
  · obtain ⟨x, y, rfl, _⟩ := h
    rfl
  · obtain ⟨x, y, rfl, hA, k⟩ := h
    have hu1 := hu_of hr
    have tl : ∀ {X : Cx} {p : Pos}, X.mg = mg → Gl X "list" → PE X (.Name "list" p) (tC (.ty "list")) := fun {X p} e g => pe_bltn (v := .ty "list") (u := .type "list") g (by rw [e]; exact mLi) (by decide +kernel) rfl
    have tt : ∀ {X : Cx} {p : Pos}, X.mg = mg → Gl X "tuple" → PE X (.Name "tuple" p) (tC (.ty "tuple")) := fun {X p} e g => pe_bltn (v := .ty "tuple") (u := .type "tuple") g (by rw [e]; exact mT) (by decide +kernel) rfl
    have td : ∀ {X : Cx} {p : Pos}, X.mg = mg → Gl X "dict" → PE X (.Name "dict" p) (tC (.ty "dict")) := fun {X p} e g => pe_bltn (v := .ty "dict") (u := .type "dict") g (by rw [e]; exact mD) (by decide +kernel) rfl
    have tb : ∀ {X : Cx} {p : Pos}, X.mg = mg → Gl X "bool" → PE X (.Name "bool" p) (tC (.ty "bool")) := fun {X p} e g => pe_bltn (v := .ty "bool") (u := .type "bool") g (by rw [e]; exact mB) (by decide +kernel) rfl
    refine ⟨_, PSs.nox (pss_cons (ps_if (pt_val (pe_callB call_isiT (by rfl) mIs (by decide +kernel) (pa_cons (pv 0) (pa_cons (pe_tup (pa_cons (tl rfl (by rfl)) (pa_cons (tt rfl (by rfl)) pa_nil))) pa_nil))))
        (pss_cons (ps_set (i := 2) scEx.nd rfl (Or.inl rfl) (pe_and (pe_cmpR op_eq (pe_callB call_isi (by rfl) mIs (by decide +kernel) (pa_cons (pv 1) (pa_cons (tl rfl (by rfl)) pa_nil))) (pe_callB call_isi (by rfl) mIs (by decide +kernel) (pa_cons (pv 0) (pa_cons (tl rfl (by rfl)) pa_nil))) (nomark _))
            (pe_one (pe_cmpR op_eq (pe_callB call_isi (by rfl) mIs (by decide +kernel) (pa_cons (pv 1) (pa_cons (tt rfl (by rfl)) pa_nil))) (pe_callB call_isi (by rfl) mIs (by decide +kernel) (pa_cons (pv 0) (pa_cons (tt rfl (by rfl)) pa_nil))) (nomark _)))))
          (pss_one (ps_ret (pe_and (pv 2) (pe_and (pe_cmpR op_eq (pe_callB call_len_seq (by rfl) mL PySem.boot_len (pa_cons (pv 0) pa_nil)) (pe_callB call_len_seq (by rfl) mL PySem.boot_len (pa_cons (pv 1) pa_nil)) (nomark _))
            (pe_one (pe_callB (cr_all rfl) (by rfl) mA (by decide +kernel) (pa_cons
              (pe_lc (own := [("_law_a", 3), ("_law_b", 4)]) (g := gTup K 2 (gCons (gName 3) (gCons (gName 4) gNil))) (tt := tYes) (by rfl) scEx.nd (RZ.pi_zipA (by rfl) mZ (pa_cons (pv 0) (pa_cons (pv 1) pa_nil)))
                (blkOk_by (own := [("_law_a", 3), ("_law_b", 4)]) (N := nEx) (sc := defScope sEx) (by decide +kernel))
                (fun _ _ _ _ _ => pg_tup rfl (pgs_cons (pg_name (i := 3) scEx.nd rfl (Or.inl rfl)) (pgs_cons (pg_name (i := 4) scEx.nd rfl (Or.inl rfl)) pgs_nil))) (fun _ _ _ _ _ => pts_nil) (fun _ _ _ _ _ => pe_got G hr (pa_cons (pv 3) (pa_cons (pv 4) pa_nil)) (by rfl) (Nat.le_refl _))) pa_nil)))))))) pss_nil)
      (pss_cons (ps_if (pt_val (pe_callB call_isi (by rfl) mIs (by decide +kernel) (pa_cons (pv 0) (pa_cons (td rfl (by rfl)) pa_nil))))
        (pss_cons (ps_set (i := 2) scEx.nd rfl (Or.inl rfl) (pe_and (pe_callB call_isi (by rfl) mIs (by decide +kernel) (pa_cons (pv 1) (pa_cons (td rfl (by rfl)) pa_nil)))
            (pe_one (pe_got G hr (pa_cons (pe_callTy (call_list_dK rfl) (by rfl) mLi (by decide +kernel) (pa_cons (pv 0) pa_nil)) (pa_cons (pe_callTy (call_list_dK rfl) (by rfl) mLi (by decide +kernel) (pa_cons (pv 1) pa_nil)) pa_nil)) (by rfl) (Nat.le_refl _)))))
          (pss_one (ps_ret (pe_and (pv 2) (pe_one (pe_callB (cr_all rfl) (by rfl) mA (by decide +kernel) (pa_cons
              (pe_lc (own := [("_law_key", 5)]) (g := gName 5) (tt := tYes) (by rfl) scEx.nd (pi_keys (pv 0)) (blkOk_by (own := [("_law_key", 5)]) (N := nEx) (sc := defScope sEx) (by decide +kernel))
                (fun _ _ _ _ _ => pg_name (i := 5) scEx.nd rfl (Or.inl rfl)) (fun _ _ _ _ _ => pts_nil) (fun _ _ _ _ _ => pe_got G hr (pa_cons (pe_dget hu1 (pv 0) (pv 5) (fun _ _ => rfl)) (pa_cons (pe_dget hu1 (pv 1) (pv 5) (fun _ _ => rfl)) pa_nil)) (by rfl) (Nat.le_refl _))) pa_nil))))))) pss_nil)
      (pss_one (ps_ret (pe_and (pe_cmpR op_eq (pe_callB call_isi (by rfl) mIs (by decide +kernel) (pa_cons (pv 0) (pa_cons (tb rfl (by rfl)) pa_nil))) (pe_callB call_isi (by rfl) mIs (by decide +kernel) (pa_cons (pv 1) (pa_cons (tb rfl (by rfl)) pa_nil))) (nomark _))
        (pe_one (pe_cmpR op_eq (pv 0) (pv 1) (nomark _)))))))), ?_⟩
    cases hA with
    | flat hf =>
      obtain ⟨T, c, ty, h1, h2, h3, h4, hs⟩ : ∃ (T : String) (c : Bool), (∀ H', TyX K H' x (.type T)) ∧ kitB T "list" = some false ∧ kitB T "tuple" = some false ∧ kitB T "dict" = some false ∧ kitB T "bool" = some c ∧ scal x x = true := by
        cases x with
        | non => exact ⟨_, _, fun _ => .base .non, by decide +kernel, by decide +kernel, by decide +kernel, (by decide +kernel : kitB "NoneType" "bool" = some false), rfl⟩
        | bl b => exact ⟨_, _, fun _ => .base (.bl b), by decide +kernel, by decide +kernel, by decide +kernel, (by decide +kernel : kitB "bool" "bool" = some true), rfl⟩
        | int b => exact ⟨_, _, fun _ => .base (.int b), by decide +kernel, by decide +kernel, by decide +kernel, (by decide +kernel : kitB "int" "bool" = some false), rfl⟩
        | str b => exact ⟨_, _, fun _ => .base (.str b), by decide +kernel, by decide +kernel, by decide +kernel, (by decide +kernel : kitB "str" "bool" = some false), rfl⟩
        | _ => cases hf
      refine ⟨_, rfl, (by show 2 ≤ sizeLine; decide), fun tp htp => ?_⟩
      have s1 := same_upd (o := .tup [.ty "list", .ty "tuple"]) htp
      refine ⟨x, tp, _, .type T, [.type "list", .type "tuple"], _, rfl, upd_same, .cons (.ty _) (.cons (.ty _) .nil), ty _, any_tt h1 h2, _, rfl, iteF ?_⟩
      refine ⟨_, rfl, x, .ty "dict", _, _, false, rfl, .ty _, ty _, kit_ty h3, _, rfl, iteF ?_⟩
      refine ⟨_, rfl, x, .ty "bool", _, _, c, rfl, .ty _, ty _, kit_ty h4, _, rfl, x, .ty "bool", _, _, c, rfl, .ty _, ty _, kit_ty h4, (by cases c <;> rfl), _, rfl, ?_⟩
      rw [decide_eq_true rfl]
      refine iteT ⟨_, rfl, _, rfl, hs, ?_⟩
      rw [decide_eq_true rfl]
      exact k _ s1
    | @lst _ a b xs ys ha hb hl hz hs =>
      refine ⟨_, rfl, (by show 2 ≤ sizeLine; decide), fun tp htp => ?_⟩
      have s1 := same_upd (o := .tup [.ty "list", .ty "tuple"]) htp
      have ta : TyX K (upd H tp (.tup [.ty "list", .ty "tuple"])) (.ref a) (.type "list") := .base (.lst (s1 _ _ ha))
      have tb' : TyX K (upd H tp (.tup [.ty "list", .ty "tuple"])) (.ref b) (.type "list") := .base (.lst (s1 _ _ hb))
      have kl : kitB "list" "list" = some true := by decide +kernel
      have kt : kitB "list" "tuple" = some false := by decide +kernel
      refine ⟨.ref a, tp, _, .type "list", [.type "list", .type "tuple"], _, rfl, upd_same, .cons (.ty _) (.cons (.ty _) .nil), ta, any_tt kl kt, _, rfl, iteT ?_⟩
      have ha1 := s1 _ _ ha
      have hb1 := s1 _ _ hb
      generalize upd H tp (.tup [.ty "list", .ty "tuple"]) = H1 at s1 ta tb' ha1 hb1
      refine ⟨_, rfl, .ref b, .ty "list", _, _, _, rfl, .ty _, tb', kit_ty kl, _, rfl, .ref a, .ty "list", _, _, _, rfl, .ty _, ta, kit_ty kl, rfl, _, rfl, ?_⟩
      rw [decide_eq_true rfl]
      refine iteT ⟨_, rfl, .ref b, .ty "tuple", _, _, _, rfl, .ty _, tb', kit_ty kt, _, rfl, .ref a, .ty "tuple", _, _, _, rfl, .ty _, ta, kit_ty kt, rfl, ?_⟩
      refine ⟨_, rfl, _, rfl, ?_⟩
      rw [decide_eq_true rfl]
      refine iteT ⟨_, rfl, a, xs, rfl, .inl (SqL.of ha1), _, rfl, b, ys, rfl, .inl (SqL.of hb1), rfl, _, rfl, ?_⟩
      rw [hl, decide_eq_true rfl]
      refine iteT ⟨_, rfl, _, rfl, a, b, xs, ys, rfl, .inl ⟨SqL.of ha1, SqL.of hb1, fun D hD => ?_⟩⟩
      refine lc_pairsL hl (fun i H' => Same H1 H' ∧ H' D = some (.lst ((List.replicate i true).map V.bl))) ⟨same_upd hD, upd_same⟩ (fun i H' ⟨sA, _⟩ => ⟨SqL.of (sA _ _ ha1), SqL.of (sA _ _ hb1)⟩) ?_ ?_
      · rintro i u v T H' hu hv ⟨sA, gA⟩ hT
        have sT := same_upd (o := .tup [u, v]) hT
        refine ⟨T, _, rfl, SqT.of upd_same, rfl, _, _, rfl, _, _, rfl, rfl, rfl, ?_⟩
        dsimp only [tYes]
        rw [if_pos rfl]
        refine ⟨_, rfl, _, rfl, u, v, rfl, Alk.same (s1.trans (sA.trans sT)) (hs i u v hu hv), fun H2 s2 => ?_⟩
        refine ⟨_, s2 _ _ (sT _ _ gA), ?_, fun c o e => ?_, ?_⟩
        · rw [List.length_map, List.length_replicate]
          have : i < xs.length := (List.getElem?_eq_some_iff.mp hu).1
          exact small1000 (by omega)
        · rw [upd_ne (ne_of_none e hD)]
          exact s2 _ _ (sT _ _ (sA _ _ e))
        · rw [upd_same, List.replicate_succ', List.map_append]
          rfl
      · rintro H2 ⟨sA, gA⟩
        refine ⟨D, List.replicate xs.length true, rfl, SqL.of gA, ?_⟩
        rw [show (List.replicate xs.length true).all id = true by simp]
        exact k _ (s1.trans sA)
    | @tup _ a b xs ys ha hb hl hz hs =>
      refine ⟨_, rfl, (by show 2 ≤ sizeLine; decide), fun tp htp => ?_⟩
      have s1 := same_upd (o := .tup [.ty "list", .ty "tuple"]) htp
      have ta : TyX K (upd H tp (.tup [.ty "list", .ty "tuple"])) (.ref a) (.type "tuple") := .base (.tup (s1 _ _ ha))
      have tb' : TyX K (upd H tp (.tup [.ty "list", .ty "tuple"])) (.ref b) (.type "tuple") := .base (.tup (s1 _ _ hb))
      have kl : kitB "tuple" "list" = some false := by decide +kernel
      have kt : kitB "tuple" "tuple" = some true := by decide +kernel
      refine ⟨.ref a, tp, _, .type "tuple", [.type "list", .type "tuple"], _, rfl, upd_same, .cons (.ty _) (.cons (.ty _) .nil), ta, any_tt kl kt, _, rfl, iteT ?_⟩
      have ha1 := s1 _ _ ha
      have hb1 := s1 _ _ hb
      generalize upd H tp (.tup [.ty "list", .ty "tuple"]) = H1 at s1 ta tb' ha1 hb1
      refine ⟨_, rfl, .ref b, .ty "list", _, _, _, rfl, .ty _, tb', kit_ty kl, _, rfl, .ref a, .ty "list", _, _, _, rfl, .ty _, ta, kit_ty kl, rfl, _, rfl, ?_⟩
      rw [decide_eq_true rfl]
      refine iteT ⟨_, rfl, .ref b, .ty "tuple", _, _, _, rfl, .ty _, tb', kit_ty kt, _, rfl, .ref a, .ty "tuple", _, _, _, rfl, .ty _, ta, kit_ty kt, rfl, ?_⟩
      refine ⟨_, rfl, _, rfl, ?_⟩
      rw [decide_eq_true rfl]
      refine iteT ⟨_, rfl, a, xs, rfl, .inr (SqT.of ha1), _, rfl, b, ys, rfl, .inr (SqT.of hb1), rfl, _, rfl, ?_⟩
      rw [hl, decide_eq_true rfl]
      refine iteT ⟨_, rfl, _, rfl, a, b, xs, ys, rfl, .inr ⟨SqT.of ha1, SqT.of hb1, fun D hD => ?_⟩⟩
      refine lc_pairsT hl (fun i H' => Same H1 H' ∧ H' D = some (.lst ((List.replicate i true).map V.bl))) ⟨same_upd hD, upd_same⟩ (fun i H' ⟨sA, _⟩ => ⟨SqT.of (sA _ _ ha1), SqT.of (sA _ _ hb1)⟩) ?_ ?_
      · rintro i u v T H' hu hv ⟨sA, gA⟩ hT
        have sT := same_upd (o := .tup [u, v]) hT
        refine ⟨T, _, rfl, SqT.of upd_same, rfl, _, _, rfl, _, _, rfl, rfl, rfl, ?_⟩
        dsimp only [tYes]
        rw [if_pos rfl]
        refine ⟨_, rfl, _, rfl, u, v, rfl, Alk.same (s1.trans (sA.trans sT)) (hs i u v hu hv), fun H2 s2 => ?_⟩
        refine ⟨_, s2 _ _ (sT _ _ gA), ?_, fun c o e => ?_, ?_⟩
        · rw [List.length_map, List.length_replicate]
          have : i < xs.length := (List.getElem?_eq_some_iff.mp hu).1
          exact small1000 (by omega)
        · rw [upd_ne (ne_of_none e hD)]
          exact s2 _ _ (sT _ _ (sA _ _ e))
        · rw [upd_same, List.replicate_succ', List.map_append]
          rfl
      · rintro H2 ⟨sA, gA⟩
        refine ⟨D, List.replicate xs.length true, rfl, SqL.of gA, ?_⟩
        rw [show (List.replicate xs.length true).all id = true by simp]
        exact k _ (s1.trans sA)
end
end L2.K57
namespace L2.K57
open PySem PySem.Spec PyProof.Rows L2.EV
theorem got_ex {P : Program} {w : World} {K : PySem.W.Frag} {mg : Str → Option Value} {base : Heap} {f : Addr} {fd : FuncData} (F : FnP K "_law_exact" sEx f fd) (gE : mg "_law_exact" = some (.ref f)) (mIs : mg "isinstance" = none) (mL : mg "len" = none) (mA : mg "all" = none) (mZ : mg "zip" = none)
    (mLi : mg "list" = none) (mT : mg "tuple" = none) (mD : mg "dict" = none) (mB : mg "bool" = none) : ∀ n, Got P w K mg base (n + 1) "_law_exact" pEx (spEx n) := by
  have b : Binds K fd pEx [] := F.bindsN fun _ _ _ _ _ _ us hl => match us, hl with | [_, _], _ => rfl
  intro n
  induction n with
  | zero =>
    refine ⟨f, fd, ⟨fun vs H Q E h => ?_, fun A outer s H args us vs Q E _ _ _ _ h => ?_⟩, b, F.kp, gE⟩
    · obtain ⟨x, y, rfl, _⟩ := h
      rfl
    · obtain ⟨x, y, rfl, h, _⟩ := h
      cases h
  | succ n ih => exact ⟨f, fd, ok_ex_step F ih mIs mL mA mZ mLi mT mD mB, b, F.kp, gE⟩
end L2.K57
set_option Elab.async false
set_option linter.all false
set_option maxRecDepth 100000
set_option maxHeartbeats 4000000
namespace L2.K57
open PySem PySem.Spec PyProof.Rows L2.EV
/-! ### the form of a word -/
def wordB (x : Str) : Bool := decide (x.length ≤ 8) && (Txt.isascii x && (Txt.isalpha x && Txt.islower x))
theorem low_codes : ((List.range 26).map (· + 97)).all (fun c => decide (c < 128) && Unicode.isAlpha c && Unicode.isLower c && !(Unicode.isUpper c || Unicode.isTitle c)) = true := by decide +kernel
theorem low_code {c : Nat} (h : 97 ≤ c ∧ c ≤ 122) : c < 128 ∧ Unicode.isAlpha c = true ∧ Unicode.isLower c = true ∧ (Unicode.isUpper c || Unicode.isTitle c) = false := by
  have := List.all_eq_true.mp low_codes c (List.mem_map.mpr ⟨c - 97, List.mem_range.mpr (by omega), by omega⟩)
  simp only [Bool.and_eq_true, decide_eq_true_eq, Bool.not_eq_true'] at this
  exact ⟨this.1.1.1, this.1.1.2, this.1.2, this.2⟩
theorem Word.form {x : Str} (h : Word x) : wordB x = true := by
  have code : ∀ c ∈ x.cps, 97 ≤ c ∧ c ≤ 122 := fun c hc => h.2 c (by simpa using hc)
  have e0 : 0 < x.cps.size := h.1.1
  have a1 : Txt.isascii x = true := by
    unfold Txt.isascii
    exact Array.all_eq_true_iff_forall_mem.mpr fun c hc => decide_eq_true (low_code (code c hc)).1
  have a2 : Txt.isalpha x = true := by
    unfold Txt.isalpha
    rw [Bool.and_eq_true]
    exact ⟨decide_eq_true h.1.1, Array.all_eq_true_iff_forall_mem.mpr fun c hc => (low_code (code c hc)).2.1⟩
  have a3 : Txt.islower x = true := by
    unfold Txt.islower
    rw [Bool.and_eq_true]
    refine ⟨Array.any_eq_true.mpr ⟨0, e0, (low_code (code _ (Array.getElem_mem e0))).2.2.1⟩, ?_⟩
    rw [Bool.not_eq_true']
    refine Array.any_eq_false.mpr fun i hi => ?_
    rw [(low_code (code _ (Array.getElem_mem hi))).2.2.2]
    decide
  unfold wordB
  rw [a1, a2, a3, decide_eq_true h.1.2]
  rfl
abbrev sWF : Stmt := top 6
theorem scWF : FnScope ["value"] ["value"] (defScope sWF) := ⟨rfl, rfl, rfl, by decide +kernel, rfl, by decide +kernel, by decide +kernel⟩
def spWF (K : PySem.W.Frag) : Sp := fun vs H Q _ => ∃ v, vs = [v] ∧ ((∃ x, v = .str x ∧ x.length ≤ sizeLine ∧ Q (.bl (wordB x)) H) ∨ ∃ t, TyX K H v t ∧ PySem.W.kitOne K t (.type "str") = some false ∧ Q (.bl false) H)
section
variable {P : Program} {w : World} {K : PySem.W.Frag} {mg : Str → Option Value} {base : Heap} {f : Addr} {fd : FuncData}
theorem ok_wf {t8 : Tok} (F : FnP K "has_word_form" sWF f fd) (m8 : mg "LONGEST_WORD" = some (.int 8 t8)) (mIs : mg "isinstance" = none) (mL : mg "len" = none) (mS : mg "str" = none) : FnOk P w K mg base CX0 1 f fd ["value"] (spWF K) := by
  refine F.ok scWF (fun vs H Q E h => ?_) (fun cdv A outer s H vs Q E hr h => ?_)
  · obtain ⟨v, rfl, _⟩ := h
    rfl
  · obtain ⟨v, rfl, h⟩ := h
    refine ⟨_, PSs.nox (pss_cons (ps_if (PW.pt (pw_or (pt_not (pt_val (pe_callB call_isi (by rfl) mIs (by decide +kernel) (pa_cons (pv 0) (pa_cons (pe_bltn (v := .ty "str") (u := .type "str") (by rfl) mS (by decide +kernel) rfl) pa_nil)))))
        (pw_or1 (pt_cmpR op_gt (pe_callB call_len_str (by rfl) mL PySem.boot_len (pa_cons (pv 0) pa_nil)) (pe_glob (v := .int 8) (by rfl) m8 ⟨t8, rfl⟩ (by decide)) (nomark _))))) (pss_one (ps_ret pe_bl)) pss_nil)
      (pss_one (ps_ret (pe_and (pe_m0 PySem.F.slot_str_isascii PySem.F.type_str_isascii mt_isascii (pv 0))
        (pe_and (pe_m0 PySem.F.slot_str_isalpha PySem.F.type_str_isalpha mt_isalpha (pv 0))
          (pe_one (pe_m0 PySem.F.slot_str_islower PySem.F.type_str_islower mt_islower (pv 0)))))))), ?_⟩
    rcases h with ⟨x, rfl, hx, q⟩ | ⟨t, ty, kt, q⟩
    · refine ⟨_, rfl, _, .ty "str", _, _, true, rfl, .ty _, .base (.str x), kit_ty (by decide +kernel), true, rfl, iteF ?_⟩
      refine ⟨_, rfl, x, rfl, hx, _, _, rfl, rfl, _, rfl, ?_⟩
      by_cases h8 : x.length ≤ 8
      · rw [decide_eq_false (by omega)]
        have e : wordB x = (Txt.isascii x && (Txt.isalpha x && Txt.islower x)) := by
          unfold wordB
          rw [decide_eq_true h8]
          rfl
        rw [e] at q
        refine iteF ⟨_, rfl, ⟨x, rfl⟩, x, rfl, rfl, trivial, _, rfl, ?_⟩
        cases e1 : Txt.isascii x with
        | false => rw [e1] at q; exact iteF q
        | true =>
          rw [e1] at q
          refine iteT ⟨_, rfl, ⟨x, rfl⟩, x, rfl, rfl, trivial, _, rfl, ?_⟩
          cases e2 : Txt.isalpha x with
          | false => rw [e2] at q; exact iteF q
          | true =>
            rw [e2] at q
            exact iteT ⟨_, rfl, ⟨x, rfl⟩, x, rfl, rfl, trivial, q⟩
      · rw [decide_eq_true (by omega)]
        have e : wordB x = false := by
          unfold wordB
          rw [decide_eq_false h8]
          rfl
        rw [e] at q
        exact iteT q
    · exact ⟨_, rfl, v, .ty "str", _, _, false, rfl, .ty _, ty, kt, false, rfl, iteT (iteT q)⟩
end
end L2.K57
set_option Elab.async false
set_option linter.all false
set_option maxRecDepth 100000
set_option maxHeartbeats 4000000
namespace L2.K57
open PySem PySem.Spec PyProof.Rows L2.EV
/-! ### tuples of a length -/
abbrev sTof : Stmt := top 5
theorem scTof : FnScope ["value", "length"] ["value", "length"] (defScope sTof) := ⟨rfl, rfl, rfl, by decide +kernel, rfl, by decide +kernel, by decide +kernel⟩
def spTof (K : PySem.W.Frag) : Sp := fun vs H Q _ => ∃ (v : V) (n : Nat), vs = [v, .int (n : Int)] ∧ ((∃ a xs, v = .ref a ∧ H a = some (.tup xs) ∧ Q (.bl (decide (xs.length = n))) H) ∨ ∃ t, TyX K H v t ∧ PySem.W.kitOne K t (.type "tuple") = some false ∧ Q (.bl false) H)
section
variable {P : Program} {w : World} {K : PySem.W.Frag} {mg : Str → Option Value} {base : Heap} {f : Addr} {fd : FuncData}
theorem ok_tof (F : FnP K "is_tuple_of" sTof f fd) (mIs : mg "isinstance" = none) (mT : mg "tuple" = none) (mL : mg "len" = none) : FnOk P w K mg base CX0 1 f fd ["value", "length"] (spTof K) := by
  refine F.ok scTof (fun vs H Q E h => ?_) (fun cdv A outer s H vs Q E hr h => ?_)
  · obtain ⟨v, n, rfl, _⟩ := h
    rfl
  · obtain ⟨v, n, rfl, h⟩ := h
    refine ⟨_, PSs.nox (pss_one (ps_ret (pe_and (pe_callB call_isi (by rfl) mIs (by decide +kernel) (pa_cons (pv 0) (pa_cons (pe_bltn (v := .ty "tuple") (u := .type "tuple") (by rfl) mT (by decide +kernel) rfl) pa_nil)))
      (pe_one (pe_cmpR op_eq (pe_callB call_len_seq (by rfl) mL PySem.boot_len (pa_cons (pv 0) pa_nil)) (pv 1) (nomark _)))))), ?_⟩
    rcases h with ⟨a, xs, rfl, ha, q⟩ | ⟨t, ty, k, q⟩
    · refine ⟨_, rfl, .ref a, .ty "tuple", _, _, true, rfl, .ty _, .base (.tup ha), kit_ty (by decide +kernel), true, rfl, iteT ?_⟩
      refine ⟨_, rfl, a, xs, rfl, .inr (SqT.of ha), _, rfl, rfl, ?_⟩
      have e : decide (V.int (xs.length : Int) = V.int (n : Int)) = decide (xs.length = n) := by
        by_cases h : xs.length = n
        · rw [h, decide_eq_true rfl, decide_eq_true rfl]
        · rw [decide_eq_false h, decide_eq_false fun z => by injection z with z; omega]
      rw [e]
      exact q
    · exact ⟨_, rfl, v, .ty "tuple", _, _, false, rfl, .ty _, ty, k, false, rfl, iteF q⟩
end
end L2.K57
set_option Elab.async false
set_option linter.all false
set_option maxRecDepth 100000
set_option maxHeartbeats 4000000
namespace L2.EV
open PySem PySem.Spec PyProof.Rows L2
/-! ### a set filled from a list: what the elements are is left open -/
/-- T i: what is said of the set at S behind i elements; h0: what was there ahead -/
structure Bag (prog : Program) (w : World) (A : Around) (S : Addr) (h0 : Heap) (vs : Nat → Value → Prop) (n : Nat) (T : Nat → Heap → Prop) : Prop where
  stay : ∀ i h h', T i h → (∀ o, h.get? S = some o → h'.get? S = some o) → (∀ b o, h0.get? b = some o → h'.get? b = some o) → T i h'
  put : ∀ (i : Nat) (v : Value) (s : Shared) (E : Value → Shared → Prop) (Q : Bool → Shared → Prop), i < n → vs i v → T i s.heap → (∀ b o, h0.get? b = some o → s.heap.get? b = some o) →
    (∀ (c : Bool) (h' : Heap) (tk : Nat), s.toks ≤ tk → Heap.SameBut S s.heap h' → T (i + 1) h' → Q c { s with heap := h', toks := tk }) → wpAny (model prog w) A (setAdd S v) Q E s
section
variable {prog : Program} {w : World} {A : Around} {R : Result → Shared → Prop} {I S : Addr} {fp wr : List Addr} {G : Array GenState → Array GenState → Prop} {n : Nat} {Pv : Nat → Value → Prop} {St : Nat → Shared → Prop} {h0 : Heap} {T : Nat → Heap → Prop}
theorem bag_loop (W : WalksS prog w A.in1 I fp wr G n Pv St) (hS : S ∉ fp) (B : Bag prog w A.in1 S h0 Pv n T) (hn : h0.get? S = none) (hw : ∀ b ∈ wr, h0.get? b = none) : ∀ (m i : Nat) (s : Shared), i + m = n → St i s → T i s.heap → (∀ b o, h0.get? b = some o → s.heap.get? b = some o) →
    (∀ s', Moved (S :: wr) G s s' → T n s'.heap → (∀ b o, h0.get? b = some o → s'.heap.get? b = some o) → R (.ok (.ret .none)) s') → codeAny (model prog w) A (.builtin "set.update.loop" ⟨[.ref S, .ref I], []⟩) R s := by
  have off : S ∉ wr := fun z => hS (W.sub _ z)
  have wide : ∀ b ∈ wr, b ∈ S :: wr := fun b z => List.mem_cons_of_mem _ z
  have old : ∀ {s s' : Shared}, Moved wr G s s' → (∀ b o, h0.get? b = some o → s.heap.get? b = some o) → ∀ b o, h0.get? b = some o → s'.heap.get? b = some o := fun mv k b o e => mv.heap b o (fun z => by rw [hw b z] at e; cases e) (k b o e)
  intro m
  induction m with
  | zero =>
    intro i s e st t k r
    obtain rfl : i = n := e
    refine codeAny_builtin (by exact F.entry_set_update_loop) ?_
    rw [Around.under_plainId (by exact F.plain_set_update_loop) _]
    refine wpAny_bind (W.done s _ _ st fun s1 mv => wpAny_pure (r s1 (mv.mono wide) ?_ (old mv k)))
    exact B.stay _ _ _ t (fun o z => mv.heap S o off z) (old mv k)
  | succ m ih =>
    intro i s e st t k r
    have lt : i < n := by omega
    refine codeAny_builtin (by exact F.entry_set_update_loop) ?_
    rw [Around.under_plainId (by exact F.plain_set_update_loop) _]
    refine wpAny_bind (W.item i s _ _ lt st fun v s1 pv st1 mv => ?_)
    have k1 := old mv k
    refine wpAny_bind (wpAny_holding (B.put i v s1 _ _ lt pv (B.stay _ _ _ t (fun o z => mv.heap S o off z) k1) k1 fun c h' tk le sb t1 => ?_))
    have k2 : ∀ b o, h0.get? b = some o → h'.get? b = some o := fun b o z => (sb.2 b (fun y => by rw [y, hn] at z; cases z)).trans (k1 b o z)
    refine wpAny_pure ⟨plainId_quiet (by exact F.plain_set_update_loop) _, ih (i + 1) _ (by omega) (W.frame _ s1 _ _ st1 le fun b z o y => ?_) t1 k2 fun s2 mv2 t2 k3 => r s2 (Moved.trans W.gtrans ((mv.mono wide).then_heap le fun b o z y => ?_) mv2) t2 k3⟩
    · rw [sb.2 b fun q => hS (by rw [← q]; exact z)]
      exact y
    · rw [sb.2 b fun q => z (by rw [q]; exact List.mem_cons_self)]
      exact y
end
end L2.EV
set_option Elab.async false
set_option linter.all false
set_option maxRecDepth 100000
set_option maxHeartbeats 4000000
namespace L2.EV
open PySem PySem.Spec PyProof.Rows L2
/-- an empty set, new -/
abbrev newS (w : World) : Obj := { cls := .type "set", dict := none, data := .set #[] 0 (.fresh 0 0 (!w.params.followText "set-order")) }
section
variable {prog : Program} {w : World} {A : Around} {E : Value → Shared → Prop} {s : Shared}
set_option maxHeartbeats 8000000 in
theorem bag_call {l : Addr} {items : Array Value} {T : Nat → Heap → Prop} {Q : Value → Shared → Prop} (hh : A.handled = none) (hl : s.heap.IsList l items) (B : Bag prog w A.in1.in1.in1 s.heap.objs.size s.heap (fun i v => items[i]? = some v) items.size T)
    (start : ∀ h' : Heap, h'.get? s.heap.objs.size = some (newS w) → T 0 h')
    (q : ∀ (h' : Heap) (tk : Nat), T items.size h' → (∀ b o, s.heap.get? b = some o → h'.get? b = some o) → Q (.ref s.heap.objs.size) { s with heap := h', toks := tk }) : wpAny (model prog w) A (call (.type "set") [.ref l]) Q E s := by
  obtain ⟨c, tl, e1⟩ := F.called_set.mro
  have e2 := F.called_set.made; have e3 := F.called_set.sub
  have e4 := F.called_set.notType; have e5 := F.called_set.canCreate; have e6 := F.typeCall_set_1 (.ref l)
  refine wpAny_call (codeAny_of_tree ?_)
  show wpAny _ _ (callAny (.type "set") ⟨[.ref l], []⟩) _ _ s
  refine wpAny_pure ⟨Code.quiet_builtin _ (by decide +kernel), codeAny_builtin (by exact F.entry_type_call) ?_⟩
  rw [Around.under_plain (by exact weight_type_call_type "set" [.ref l] []) (by rfl)]
  repeat (any_goals (first | with_reducible assumption | assumption | wp_step))
  refine codeAny_mono (code_set_led1 (P := prog) (s := s) (E := E) (.ref l) (Q₁ := fun v s1 => v = .ref s.heap.objs.size ∧ s1 = { s with heap := s.heap.push (newS w) }) ⟨rfl, rfl⟩) fun r s1 hr => ?_
  cases r with
  | error er => exact hr
  | ok fl =>
   cases fl with
   | next => exact hr.elim
   | brk => exact hr.elim
   | cont => exact hr.elim
   | ret v =>
    obtain ⟨rfl, rfl⟩ := hr
    have at_S : (s.heap.push (newS w)).get? s.heap.objs.size = some (newS w) := Heap.get?_push_size _ rfl
    have ty_S : Shared.TypeIs { s with heap := s.heap.push (newS w) } (.ref s.heap.objs.size) "set" := ⟨_, at_S, rfl⟩
    have e7 := F.called_set.init.lookup; have e8 := F.called_set.init.bind (.ref s.heap.objs.size)
    repeat (any_goals (first | with_reducible assumption | assumption | wp_step))
    refine codeAny_mono (codeAny_call_builtin (R := wants (fun r s2 => r = .none ∧ ∃ h' tk, s2 = { s with heap := h', toks := tk } ∧ T items.size h' ∧ ∀ b o, s.heap.get? b = some o → h'.get? b = some o) E) (by exact F.called_set.init.plain) (by exact F.entry_set_init) (check_set_init_1 ty_S ?_)) fun r s2 hr => ?_
    · obtain ⟨ol, hol, hcl, nl, hdl⟩ := hl
      obtain ⟨ocls, odict, odata, oslots⟩ := ol
      obtain rfl : ocls = .type "list" := hcl
      obtain rfl : odata = .seq items nl := hdl
      have f1 := F.sub_list_set; have f2 := F.sub_list_frozenset; have f3 : (Value.type "list" == Value.type "dict") = false := by decide
      have hol1 : (s.heap.push (newS w)).get? l = some { cls := .type "list", dict := odict, data := .seq items nl, slots := oslots } := Heap.get?_push_of_some _ hol
      have l1 : (s.heap.push (newS w)).IsList l items := ⟨_, hol1, rfl, nl, rfl⟩
      unfold Builtin.«set.__init__» noKeywords Builtin.Frozenset.updateFrom
      generalize hPI : pyIter = PI
      wp_walk
      subst hPI
      refine wpAny_pyIter_list l1 (wpAny_bind (wpAny_runValue ?_))
      have hlS : l < s.heap.objs.size := Heap.lt_size hol
      have sz : (s.heap.push (newS w)).objs.size = s.heap.objs.size + 1 := Heap.size_push ..
      have hh3 : A.in1.in1.in1.handled = none := by simp [hh]
      have neI : l ≠ (s.heap.push (newS w)).objs.size := by
        rw [sz]
        exact Nat.ne_of_lt (Nat.lt_succ_of_lt hlS)
      have gone : ∀ b, s.heap.objs.size ≤ b → s.heap.get? b = none := fun b hb => by
        cases z : s.heap.get? b with
        | none => rfl
        | some o => exact absurd (Heap.lt_size z) (Nat.not_lt.mpr hb)
      have off : s.heap.objs.size ∉ [(s.heap.push (newS w)).objs.size, l] := by
        rw [sz]
        simp only [List.mem_cons, List.not_mem_nil, or_false, not_or]
        exact ⟨Nat.ne_of_lt (Nat.lt_succ_self _), Nat.ne_of_gt hlS⟩
      refine bag_loop (h0 := s.heap) (T := T) ((Walks.list hh3 _ l neI items).toS) off B (gone _ (Nat.le_refl _)) (fun b hb => gone b (by
          rw [List.mem_singleton.mp hb, sz]
          exact Nat.le_succ _)) items.size 0 _ (Nat.zero_add _) ⟨⟨_, Heap.get?_push_size _ rfl, rfl, rfl⟩, (l1.push _)⟩ (start _ (Heap.get?_push_of_some _ at_S)) (fun b o e => Heap.get?_push_of_some _ (Heap.get?_push_of_some _ e)) fun s3 mv t3 k3 => ?_
      obtain ⟨h', g', d', tk', os'⟩ := s3
      obtain rfl : g' = s.gens := mv.gens
      obtain rfl : d' = s.drawn := mv.drawn
      obtain rfl : os' = s.os := mv.os
      show wpAny _ _ _ _ _ _
      refine wpAny_pure ?_
      show wpAny _ _ (ret Value.none) _ _ _
      exact wpAny_pure ⟨rfl, h', tk', rfl, t3, k3⟩
    · cases r with
      | error er => exact hr
      | ok fl =>
        cases fl with
        | next => exact hr.elim
        | brk => exact hr.elim
        | cont => exact hr.elim
        | ret u =>
          obtain ⟨rfl, h', tk, rfl, t3, k3⟩ := hr
          repeat (any_goals (first | assumption | wp_step))
          exact q _ _ t3 k3
end
end L2.EV
set_option Elab.async false
set_option linter.all false
set_option maxRecDepth 100000
set_option maxHeartbeats 4000000
namespace L2.EV
open PySem PySem.Spec PyProof.Rows L2
/-! ### how many unlike ones -/
section
variable {κ : Type} [DecidableEq κ]
def dist : List κ → Nat
  | [] => 0
  | x :: xs => if x ∈ xs then dist xs else dist xs + 1
theorem dist_snoc (x : κ) : ∀ l : List κ, dist (l ++ [x]) = if x ∈ l then dist l else dist l + 1
  | [] => by simp [dist]
  | y :: l => by
    have ih := dist_snoc x l
    show (if y ∈ l ++ [x] then dist (l ++ [x]) else dist (l ++ [x]) + 1) = if x ∈ y :: l then (if y ∈ l then dist l else dist l + 1) else (if y ∈ l then dist l else dist l + 1) + 1
    rw [ih]
    by_cases a : y ∈ l <;> by_cases b : x ∈ l <;> by_cases c : x = y
    · subst c; simp [a]
    · simp [a, b, c]
    · subst c; exact absurd a b
    · simp [a, b, c]
    · subst c; exact absurd b a
    · have c' : ¬ y = x := fun e => c e.symm
      simp [a, b, c, c']
    · subst c; simp [a]
    · have c' : ¬ y = x := fun e => c e.symm
      simp [a, b, c, c']
theorem dist_le : ∀ l : List κ, dist l ≤ l.length
  | [] => Nat.le_refl _
  | x :: l => by
    have := dist_le l
    show (if x ∈ l then dist l else dist l + 1) ≤ l.length + 1
    split <;> omega
theorem dist_iff : ∀ l : List κ, dist l = l.length ↔ l.Nodup
  | [] => by simp [dist]
  | x :: l => by
    have ih := dist_iff l
    have le := dist_le l
    show (if x ∈ l then dist l else dist l + 1) = l.length + 1 ↔ _
    rw [List.nodup_cons]
    by_cases h : x ∈ l
    · rw [if_pos h]
      exact ⟨fun e => absurd e (by omega), fun e => absurd h e.1⟩
    · rw [if_neg h]
      exact ⟨fun e => ⟨h, ih.mp (by omega)⟩, fun e => by rw [ih.mpr e.2]⟩
end
/-! ### keys that are carried by value: texts, whole numbers -/
section
variable {prog : Program} {w : World} {A : Around} {κ : Type} [DecidableEq κ] {knd : PySem.KeyKind prog w κ} {S : Addr} {h0 : Heap} {items : Array Value} {ks : List κ}
def inK (ks : List κ) (k : κ) : Bool := decide (k ∈ ks)
theorem inK_iff {ks : List κ} {k : κ} : inK ks k = true ↔ k ∈ ks := decide_eq_true_iff
theorem set_as {h : Heap} {a : Addr} {F F' : κ → Bool} {n n' : Nat} (t : h.SetOf knd a F n) (e : F = F') (en : n = n') : h.SetOf knd a F' n' := by
  rw [← e, ← en]
  exact t
theorem set_fresh {h : Heap} {a : Addr} {led : Bool} (e : h.get? a = some { cls := .type "set", dict := none, data := .set #[] 0 (.fresh 0 0 led) }) : h.SetOf knd a (inK ([] : List κ)) (dist ([] : List κ)) :=
  set_as ((PyProof.Rows.setObjOf_fresh (knd := knd) led).setOf e (by unfold scanBound; omega)) (funext fun k => (decide_eq_false List.not_mem_nil).symm) rfl
abbrev BagK (knd : PySem.KeyKind prog w κ) (S : Addr) (ks : List κ) (i : Nat) (h : Heap) : Prop := h.SetOf knd S (inK (ks.take i)) (dist (ks.take i))
theorem bag_keys (hn : ks.length = items.size) (h4 : items.size ≤ 1000) (hv : ∀ (i : Nat) (v : Value) (k : κ), items[i]? = some v → ks[i]? = some k → knd.is k v = true ∧ v.scannable = true) :
    Bag prog w A S h0 (fun i v => items[i]? = some v) items.size (BagK knd S ks) where
  stay := fun i h h' t k _ => by
    obtain ⟨o, es, ep, tb, ho, rest⟩ := t
    exact ⟨o, es, ep, tb, k o ho, rest⟩
  put := fun i v s E Q lt pv t k q => by
    have ei : ks[i]? = some (ks[i]'(by omega)) := List.getElem?_eq_getElem _
    obtain ⟨hk, hs⟩ := hv i v _ pv ei
    generalize ks[i]'(by omega) = y at ei hk
    have et : ks.take (i + 1) = ks.take i ++ [y] := by rw [List.take_succ, ei]; rfl
    have dl := dist_le (ks.take i)
    rw [List.length_take] at dl
    unfold setAdd
    refine wpAny_holding (wpAny_bind (knd.pyHash (k := y) hk ?_))
    refine wpAny_setAddHashed_of (knd := knd) (s := { s with toks := s.toks + 1 }) hk hs t (by unfold scanBound; omega) fun h' sb t' => ?_
    refine q _ h' (s.toks + 1) (Nat.le_succ _) sb ?_
    show h'.SetOf knd S (inK (ks.take (i + 1))) (dist (ks.take (i + 1)))
    rw [et]
    refine set_as t' (funext fun k => ?_) ?_
    · show (decide (k ∈ ks.take i) || decide (k = y)) = decide (k ∈ ks.take i ++ [y])
      by_cases a : k ∈ ks.take i <;> by_cases b : k = y <;> simp [a, b]
    · rw [dist_snoc]
      show (if decide (y ∈ ks.take i) = true then _ else _) = _
      by_cases a : y ∈ ks.take i <;> simp [a]
end
end L2.EV
set_option Elab.async false
set_option linter.all false
set_option maxRecDepth 100000
set_option maxHeartbeats 4000000
namespace L2.EV
open PySem PySem.Spec PyProof.Rows L2
/-! ### set(xs) of texts, len of it -/
abbrev keysT (ws : List Str) : List Key := ws.map Sum.inr
theorem vals_texts : ∀ {ws : List Str} {us : List Value}, Vals (ws.map V.str) us → ∀ (i : Nat) (v : Value) (k : Key), us[i]? = some v → (keysT ws)[i]? = some k → keyIs k v = true ∧ v.scannable = true
  | [], _, .nil, i, v, k, h, _ => by simp at h
  | x :: ws, _, .cons r t, 0, v, k, h, g => by
    obtain ⟨tk, rfl⟩ := r
    cases h
    cases g
    exact ⟨keyIs_str x tk, rfl⟩
  | x :: ws, _, .cons r t, i + 1, v, k, h, g => vals_texts t i v k (by simpa using h) (by simpa using g)
def rSetTx (K : PySem.W.Frag) (P : Program) (w : World) : List V → Hp → VK → Prop := fun xs H Q => ∃ (l : Addr) (ws : List Str), xs = [.ref l] ∧ SqL K H l (ws.map V.str) ∧ ws.length ≤ 900 ∧
  ∀ p, H p = none → Q (.ref p) (upd H p (SetK P w p (inK (keysT ws)) (dist (keysT ws))))
theorem cr_setTx {X : Cx} (hc : X.calm = true) : CallR X (.type "set") (rSetTx X.K X.prog X.w) := by
  intro pins s σ H xs us Q I r h
  obtain ⟨l, ws, rfl, hq, hn, q⟩ := h
  obtain ⟨u, rfl, rx⟩ := vals1 r
  cases rx
  obtain ⟨its, rv, pl, _⟩ := I.list hq
  have hl : its.toArray.size = (keysT ws).length := by rw [List.size_toArray, ← rv.length, List.length_map, List.length_map]
  have hl2 : (keysT ws).length ≤ 900 := by rw [List.length_map]; exact hn
  refine bag_call (T := BagK (mixKind X.prog X.w) s.heap.objs.size (keysT ws)) (I.ok.hd hc) pl.isList (bag_keys hl.symm (by omega) fun i v k h1 h2 => ?_) (fun h' e => ?_) fun h' tk t kp => ?_
  · exact vals_texts rv i v k (by simpa using h1) h2
  · exact set_fresh (knd := mixKind X.prog X.w) e
  · have t' : h'.SetOf (mixKind X.prog X.w) s.heap.objs.size (inK (keysT ws)) (dist (keysT ws)) := by
      have e : (keysT ws).take its.toArray.size = keysT ws := by rw [hl, List.take_length]
      have t1 : h'.SetOf (mixKind X.prog X.w) s.heap.objs.size (inK ((keysT ws).take its.toArray.size)) (dist ((keysT ws).take its.toArray.size)) := t
      rw [e] at t1
      exact t1
    exact ⟨.ref s.heap.objs.size, _, I.laid (t' := tk) kp (Nat.le_refl _) (setK_new t'), rfl, q _ (I.hok.fresh (Nat.le_refl _))⟩
def rLenSet (P : Program) (w : World) : List V → Hp → VK → Prop := fun xs H Q => ∃ (a : Addr) (S : Key → Bool) (n : Nat), xs = [.ref a] ∧ H a = some (SetK P w a S n) ∧ Q (.int (n : Int)) H
theorem cr_lenSet {X : Cx} : CallR X (.builtin "len") (rLenSet X.prog X.w) := by
  intro pins s σ H xs us Q I r h
  obtain ⟨a, S, n, rfl, ha, q⟩ := h
  obtain ⟨u, rfl, rx⟩ := vals1 r
  cases rx
  have so : s.heap.SetOf (mixKind X.prog X.w) a S n := (I.hok a _ ha).1
  obtain ⟨o, es, ep, t, ho, hex, hd, _, _, hb, hf, hn⟩ := so
  have hb2 : es.size < 4096 := hb
  exact call_len_set ho hex hd hf (by omega) ⟨.int (n : Int), H, I.tok _, ⟨_, by rw [hn]⟩, q⟩
end L2.EV
set_option Elab.async false
set_option linter.all false
set_option maxRecDepth 100000
set_option maxHeartbeats 4000000
namespace L2.EV
open PySem PySem.Spec PyProof.Rows
/-! ### sorted(xs) of alike data, any length -/
/-- the items with their data, sorted by these -/
abbrev srtOf (bs : List (V × PyData)) : List (V × PyData) := bs.mergeSort (PySem.W.dataLe false Prod.snd)
/-- sorted(xs): bs tells the items of xs, each with its datum; the new list holds srtOf bs -/
def rSortedDp (K : PySem.W.Frag) : List V → Hp → VK → Prop := fun vs H Q => ∃ (a : Addr) (bs : List (V × PyData)), vs = [V.ref a] ∧ SqL K H a (bs.map Prod.fst) ∧ DpAll K H (bs.map Prod.fst) (bs.map Prod.snd) ∧
  PySem.W.AllAlike (bs.map Prod.snd) ∧ PySem.W.Sortable (bs.map Prod.snd) ∧ (∀ b ∈ bs, b.2.depth ≤ 32) ∧ ∀ p, H p = none → Q (.ref p) (upd H p (.lst ((srtOf bs).map Prod.fst)))
theorem each_of_vals : ∀ {bs : List (V × PyData)} {its : List Value}, Vals (bs.map Prod.fst) its → PySem.W.EachIs (fun u b => RelV b.1 u) its bs
  | [], [], _ => .nil
  | [], _ :: _, h => by cases h
  | b :: bs, us, h => by
    cases h with
    | cons h1 h2 => exact .cons h1 (each_of_vals h2)
theorem vals_of_each : ∀ {bs : List (V × PyData)} {its : List Value}, PySem.W.EachIs (fun u b => RelV b.1 u) its bs → Vals (bs.map Prod.fst) its
  | [], _, .nil => .nil
  | _ :: _, _, .cons h1 h2 => .cons h1 (vals_of_each h2)
theorem cr_sortedDp {X : Cx} (hu : X.A.units + 64 < cLine) : CallR X (.builtin "sorted") (rSortedDp X.K) := by
  intro pins s σ H vs us Q I r h
  obtain ⟨a, bs, rfl, hs, hd, hal, hk, hdep, q⟩ := h
  obtain ⟨its, rv, hl, hz⟩ := I.list hs
  obtain ⟨u, rfl, ru⟩ := vals1 r
  obtain rfl : u = Value.ref a := ru
  obtain ⟨as, rd⟩ := Dp.readsAll I _ _ _ hd rv
  rw [List.length_map] at hz
  refine PySem.W.sorted_data (enc := Prod.snd) hl.isList (each_of_vals rv) (PySem.W.readsAll_each Prod.snd rd) hal hk hz (fun b hb => ?_) fun out hlen he => ?_
  · have := hdep b hb
    omega
  · have hv := vals_of_each he
    have z : out.length ≤ sizeLine := by rw [hlen]; exact hz
    obtain ⟨n, hn⟩ := sortedAll_at s.heap its out.toArray
    refine ⟨.ref (s.heap.objs.size + 1), upd H (s.heap.objs.size + 1) (.lst ((srtOf bs).map Prod.fst)), I.laid (t' := s.toks) (fun b o e => sortedAll_old e) (Nat.le_succ _) ⟨?_, out, n, hv, hn⟩, rfl, q _ (I.hok.fresh (Nat.le_succ _))⟩
    rw [hv.length]
    exact z
/-! ### what comes of it -/
theorem dle_total : PySem.W.TotalLe (PySem.W.dataLe false (id : PyData → PyData)) := PySem.W.sortLe_total _ _ _
/-- the data, sorted -/
theorem srtOf_snd (bs : List (V × PyData)) : (srtOf bs).map Prod.snd = (bs.map Prod.snd).mergeSort (PySem.W.dataLe false id) := List.map_mergeSort fun a _ b _ => rfl
theorem srtOf_perm (bs : List (V × PyData)) : (srtOf bs).Perm bs := List.mergeSort_perm _ _
/-- two rearrangements of the same data, no two of one place, are sorted alike -/
theorem sort_uniq {l m : List PyData} (p : l.Perm m) (h : ∀ x ∈ l, ∀ y ∈ l, PySem.W.keyToks x = PySem.W.keyToks y → x = y) : l.mergeSort (PySem.W.dataLe false id) = m.mergeSort (PySem.W.dataLe false id) := by
  have tr := fun a b c => dle_total.trans a b c
  have to : ∀ a b : PyData, (PySem.W.dataLe false id a b || PySem.W.dataLe false id b a) = true := fun a b => by
    rcases dle_total.total a b with e | e
    · rw [e, Bool.true_or]
    · rw [e, Bool.or_true]
  refine List.Perm.eq_of_pairwise (le := fun a b => PySem.W.dataLe false id a b = true) (fun a b ha hb e1 e2 => ?_) (List.pairwise_mergeSort tr to l) (List.pairwise_mergeSort tr to m) ((List.mergeSort_perm l _).trans (p.trans (List.mergeSort_perm m _).symm))
  have ha' : a ∈ l := (List.mergeSort_perm l _).mem_iff.mp ha
  have hb' : b ∈ l := p.mem_iff.mpr ((List.mergeSort_perm m _).mem_iff.mp hb)
  have f1 : (listOrd itemOrd).blt (PySem.W.keyToks b) (PySem.W.keyToks a) = false := by simpa using (show (!(listOrd itemOrd).blt (PySem.W.keyToks b) (PySem.W.keyToks a)) = true from e1)
  have f2 : (listOrd itemOrd).blt (PySem.W.keyToks a) (PySem.W.keyToks b) = false := by simpa using (show (!(listOrd itemOrd).blt (PySem.W.keyToks a) (PySem.W.keyToks b)) = true from e2)
  exact h a ha' b hb' ((listOrd itemOrd).total _ _ f2 f1)
end L2.EV
set_option Elab.async false
set_option linter.all false
set_option maxRecDepth 100000
set_option maxHeartbeats 4000000
namespace L2.K57
open PySem PySem.Spec PyProof.Rows L2.EV
/-! ### words, sorted -/
/-- words in their order -/
def srtW (ws : List Str) : List Str := ws.mergeSort (PySem.W.dataLe false PyData.str)
theorem srtW_perm (ws : List Str) : (srtW ws).Perm ws := List.mergeSort_perm _ _
theorem srtW_data (ws : List Str) : (srtW ws).map PyData.str = (ws.map PyData.str).mergeSort (PySem.W.dataLe false id) := List.map_mergeSort fun a _ b _ => rfl
theorem map_inj {α β : Type} {f : α → β} (h : ∀ a b, f a = f b → a = b) : ∀ {l m : List α}, l.map f = m.map f → l = m
  | [], [], _ => rfl
  | [], _ :: _, e => by cases e
  | _ :: _, [], e => by cases e
  | a :: l, b :: m, e => by
    injection e with e1 e2
    rw [h a b e1, map_inj h e2]
theorem toks_str {x y : Str} (h : PySem.W.keyToks (.str x) = PySem.W.keyToks (.str y)) : x = y := by
  have e : ([.inr x.cps.toList] : List (Int ⊕ List Nat)) = [.inr y.cps.toList] := by simpa [PySem.W.keyToks] using h
  injection e with e1 _
  injection e1 with e2
  exact PySem.W.str_of_cps e2
theorem srtW_eq {l m : List Str} (p : l.Perm m) : srtW l = srtW m := by
  refine map_inj (f := PyData.str) (fun a b e => by injection e) ?_
  rw [srtW_data, srtW_data]
  refine sort_uniq (p.map _) fun x hx y hy e => ?_
  obtain ⟨a, _, rfl⟩ := List.mem_map.mp hx
  obtain ⟨b, _, rfl⟩ := List.mem_map.mp hy
  rw [toks_str e]
/-- sorted(l) of texts -/
theorem sortW {K : PySem.W.Frag} {H : Hp} {Q : VK} {a : Addr} {ws : List Str} (hl : SqL K H a (ws.map V.str)) (q : ∀ p, H p = none → Q (.ref p) (upd H p (.lst ((srtW ws).map V.str)))) : rSortedDp K [.ref a] H Q := by
  have e1 : (ws.map fun x => (V.str x, PyData.str x)).map Prod.fst = ws.map V.str := by rw [List.map_map]; rfl
  have e2 : (ws.map fun x => (V.str x, PyData.str x)).map Prod.snd = ws.map PyData.str := by rw [List.map_map]; rfl
  have dp : ∀ ws : List Str, DpAll K H (ws.map V.str) (ws.map PyData.str) := fun ws => by
    induction ws with
    | nil => exact .nil
    | cons x ws ih => exact .cons (.str x) ih
  refine ⟨a, ws.map fun x => (V.str x, PyData.str x), rfl, by rw [e1]; exact hl, by rw [e1, e2]; exact dp ws, ?_, ?_, ?_, fun p hp => ?_⟩
  · rw [e2]
    exact PySem.W.AllAlike.of fun x y => by simp [PySem.W.alike]
  · rw [e2]
    exact PySem.W.Sortable.others fun x => ⟨fun e => by (cases e), fun xs e => by cases e⟩
  · intro b hb
    obtain ⟨x, _, rfl⟩ := List.mem_map.mp hb
    simp [PyData.depth]
  · have e : srtOf (ws.map fun x => (V.str x, PyData.str x)) = (srtW ws).map fun x => (V.str x, PyData.str x) := (List.map_mergeSort (r := PySem.W.dataLe false PyData.str) (s := PySem.W.dataLe false Prod.snd) (f := fun x => (V.str x, PyData.str x)) (l := ws) fun a _ b _ => rfl).symm
    have := q p hp
    rw [e, List.map_map]
    exact this
end L2.K57
set_option Elab.async false
set_option linter.all false
set_option maxRecDepth 100000
set_option maxHeartbeats 4000000
namespace L2.EV
open PySem PySem.Spec PyProof.Rows L2
/-! ### a set of texts whose walk is told -/
/-- an entry's text -/
def rkT (e : Int × Value) : Str := match e.2 with
  | .str x _ => x
  | _ => ""
structure TxS (P : Program) (w : World) (h : Heap) (a : Addr) (L : List Str) (o : Obj) (es : Array (Int × Value)) (ep : Nat) (t : SetTable) : Prop where
  here : h.get? a = some o
  exact_ : o.ExactSet
  data : o.data = .set es ep t
  rows : ∀ e ∈ es.toList, ∃ x tk, e = ((strKind P w).hash x, Value.str x tk)
  perm : (es.toList.map rkT).Perm L
  nodup : L.Nodup
  few : es.size < scanBound
  fits : t.fits es.size = true
  ris : Ris t.place.toList
  led : w.params.followText "set-order" = true ∨ t.led = true
def TxAt (P : Program) (w : World) (a : Addr) (L : List Str) (h : Heap) : Prop := ∃ o es ep t, TxS P w h a L o es ep t
section
variable {P : Program} {w : World} {h h' : Heap} {a : Addr} {L : List Str} {A : Around} {E : Value → Shared → Prop} {s : Shared} {o : Obj} {es : Array (Int × Value)} {ep : Nat} {t : SetTable} {x : Str} {tk : Tok}
theorem TxAt.keep (R : TxAt P w a L h) (k : ∀ o, h.get? a = some o → h'.get? a = some o) : TxAt P w a L h' := by
  obtain ⟨o, es, ep, t, r⟩ := R
  exact ⟨o, es, ep, t, { r with here := k o r.here }⟩
theorem TxS.size (R : TxS P w h a L o es ep t) : es.size = L.length := by
  rw [← R.perm.length_eq, List.length_map, Array.length_toList]
theorem TxS.elems (R : TxS P w h a L o es ep t) : ElemsOf (strKind P w) es.toList := fun e he => by
  obtain ⟨x, tk, rfl⟩ := R.rows e he
  exact ⟨⟨x, strKind_is P w x tk, rfl⟩, rfl⟩
theorem TxS.mem (R : TxS P w h a L o es ep t) : x ∈ L ↔ ∃ e ∈ es.toList, (strKind P w).is x e.2 = true := by
  rw [← R.perm.mem_iff, List.mem_map]
  constructor
  · rintro ⟨e, he, rfl⟩
    obtain ⟨y, tk, rfl⟩ := R.rows e he
    exact ⟨_, he, strKind_is P w y tk⟩
  · rintro ⟨e, he, q⟩
    obtain ⟨y, tk, rfl⟩ := R.rows e he
    refine ⟨_, he, ?_⟩
    have q' : (y == x) = true := q
    exact eq_of_beq q'
theorem tx_tail {g : Bool → Sem Unit} (hg : ∀ (b : Bool) (s1 : Shared) (Q : Unit → Shared → Prop), Q () s1 → wpAny (model P w) A (g b) Q E s1) (ho : s.heap.get? a = some o) (hx : o.ExactSet) (hd : o.data = .set es ep t) {es1 : Array (Int × Value)} {t1 : SetTable} {L1 : List Str}
    (N : ∀ h1 o1 ep1, h1.get? a = some o1 → o1.ExactSet → o1.data = .set es1 ep1 t1 → TxS P w h1 a L1 o1 es1 ep1 t1) (few : es1.size < scanBound) {dm : Bool} {R : Option Bool → Shared → Prop}
    (q : ∀ h1, Heap.SameBut a s.heap h1 → TxAt P w a L1 h1 → R (some true) { s with heap := h1 }) :
    wpAny (model P w) A (do
        storeSet a es1 t1
        if (!dm && t1.tooFull) = true then do
            g (relayAll t1 es1 (SetTable.grown es1.size)).2.2
            storeSet a (relayAll t1 es1 (SetTable.grown es1.size)).1 (relayAll t1 es1 (SetTable.grown es1.size)).2.1
            pure (some true)
          else pure (some true)) R E s := by
  refine wpAny_bind (wpAny_storeSet_of ho hd ?_ (fits_of_scanBound few))
  have o1 := store_at (es' := es1) (t' := t1) ho hd
  have b1 := Heap.SameBut.update s.heap a (Obj.putSet es1 t1)
  have N1 := N _ _ _ o1 hx rfl
  split
  · have p2 := relayAll_perm t1 es1 (SetTable.grown es1.size)
    have f2 := relayAll_fits t1 es1 (SetTable.grown es1.size)
    have r2 := relayAll_ris t1 es1 (SetTable.grown es1.size)
    have l2 := relayAll_led t1 es1 (SetTable.grown es1.size)
    generalize relayAll t1 es1 (SetTable.grown es1.size) = Z2 at p2 f2 r2 l2 ⊢
    obtain ⟨es2, t2, gv⟩ := Z2
    dsimp only at p2 f2 r2 l2 ⊢
    have z2 : es2.size = es1.size := by rw [← Array.length_toList, p2.length_eq, Array.length_toList]
    have few2 : es2.size < scanBound := by omega
    refine wpAny_bind (hg _ _ _ ?_)
    refine wpAny_bind (wpAny_storeSet_of o1 rfl ?_ (fits_of_scanBound few2))
    have o2 := store_at (es' := es2) (t' := t2) o1 rfl
    refine wpAny_pure (q _ (b1.trans (Heap.SameBut.update _ a _)) ⟨_, es2, _, t2, o2, hx, rfl, fun e he => N1.rows e (p2.mem_iff.mp he), (p2.map rkT).trans N1.perm, N1.nodup, few2, f2, r2, ?_⟩)
    exact N1.led.imp id fun z => by rw [l2]; exact z
  · exact wpAny_pure (q _ b1 ⟨_, _, _, _, N1⟩)
/-- set.add of a text, its hash at hand -/
theorem tx_add {Q : Bool → Shared → Prop} (R : TxAt P w a L s.heap) (room : L.length + 1 < scanBound) (q : ∀ c h1, Heap.SameBut a s.heap h1 → TxAt P w a (if x ∈ L then L else L ++ [x]) h1 → Q c { s with heap := h1 }) :
    wpAny (model P w) A (setAddHashed a (.str x tk) ((strKind P w).hash x)) Q E s := by
  obtain ⟨o, es, ep, t, R⟩ := R
  have hk := strKind_is P w x tk
  have sc : (Value.str x tk).scannable = true := rfl
  unfold setAddHashed
  unfold setAddHashedIn
  refine wpAny_holding (wpAny_bind (wpAny_setState_of R.here R.data R.fits ?_))
  dsimp only
  rw [byScan_of sc R.few R.elems, if_pos rfl]
  unfold setAddByScan
  refine wpAny_bind (wpAny_bind (wpAny_rule (wpAny_bind (wpAny_setScan_of hk R.here R.data R.fits R.elems ?_))))
  cases hf : es.toList.findIdx? (fun e => (strKind P w).is x e.2) with
  | some j =>
    dsimp only
    obtain ⟨hj, pj, _⟩ := List.findIdx?_eq_some_iff_getElem.mp hf
    have hm : x ∈ L := R.mem.mpr ⟨es.toList[j], List.getElem_mem hj, pj⟩
    refine wpAny_pure (wpAny_pure (q false s.heap (Heap.SameBut.refl a s.heap) ?_))
    rw [if_pos hm]
    exact ⟨_, _, _, _, R⟩
  | none =>
    dsimp only
    have hm : x ∉ L := fun z => by
      obtain ⟨e, he, p⟩ := R.mem.mp z
      have := List.findIdx?_eq_none_iff.mp hf e he
      rw [p] at this
      cases this
    rw [if_neg hm] at q
    have p1 := layNew_perm t es ((strKind P w).hash x) (.str x tk)
    have f1 := layNew_fits t es ((strKind P w).hash x) (.str x tk)
    have r1 := layNew_ris t es ((strKind P w).hash x) (.str x tk) R.ris
    have l1 := layNew_led t es ((strKind P w).hash x) (.str x tk)
    generalize layNew t es ((strKind P w).hash x) (.str x tk) = Z1 at p1 f1 r1 l1 ⊢
    obtain ⟨es1, t1, dm, gv⟩ := Z1
    dsimp only at p1 f1 r1 l1 ⊢
    rw [Array.toList_push] at p1
    have few1 : es1.size < scanBound := by
      rw [← Array.length_toList, p1.length_eq, List.length_append, List.length_singleton, Array.length_toList, R.size]
      exact room
    have rw1 : ∀ e ∈ es1.toList, ∃ x tk, e = ((strKind P w).hash x, Value.str x tk) := fun e he => by
      rcases List.mem_append.mp (p1.mem_iff.mp he) with z | z
      · exact R.rows e z
      · exact ⟨x, tk, List.mem_singleton.mp z⟩
    have pm1 : (es1.toList.map rkT).Perm (L ++ [x]) := by
      refine (p1.map rkT).trans ?_
      rw [List.map_append]
      exact List.Perm.append_right _ R.perm
    have nd1 : (L ++ [x]).Nodup := List.nodup_append.mpr ⟨R.nodup, by simp, fun y hy z hz e => hm (by rw [← List.mem_singleton.mp hz, ← e]; exact hy)⟩
    have ld1 : w.params.followText "set-order" = true ∨ t1.led = true := R.led.imp id fun z => by rw [l1]; exact z
    have gave_ : ∀ (b : Bool) (s1 : Shared) (Q' : Unit → Shared → Prop), Q' () s1 → wpAny (model P w) A (match b with | true => rule "set.scan.the-table-gave-way" | false => pure ()) Q' E s1 := fun b s1 Q' z => by
      cases b with
      | true => exact wpAny_rule z
      | false => exact wpAny_pure z
    refine wpAny_bind (gave_ _ _ _ ?_)
    have gone : ∀ h1, Heap.SameBut a s.heap h1 → TxAt P w a (L ++ [x]) h1 → Q true { s with heap := h1 } := fun h1 b r => q true h1 b r
    split
    · refine wpAny_bind ?_
      rw [hashByValue_scannable 8 sc]
      refine wpAny_pure ?_
      refine tx_tail (L1 := L ++ [x]) ?_ R.here R.exact_ R.data ?_ few1 fun h1 b r => ?_
      · exact gave_
      · intro h1 o1 ep1 a1 a2 a3
        refine ⟨a1, a2, a3, rw1, pm1, nd1, few1, ?_, ?_, ?_⟩
        · first | exact f1 | (split <;> first | exact f1 | exact SetTable.fits_plain_off f1)
        · first | exact r1 | (split <;> exact r1)
        · first | exact ld1 | (split <;> exact ld1)
      · dsimp only
        exact wpAny_pure (gone h1 b r)
    · refine wpAny_bind (wpAny_pure ?_)
      simp only [↓reduceIte]
      refine tx_tail (L1 := L ++ [x]) ?_ R.here R.exact_ R.data ?_ few1 fun h1 b r => ?_
      · exact gave_
      · exact fun h1 o1 ep1 a1 a2 a3 => ⟨a1, a2, a3, rw1, pm1, nd1, few1, f1, r1, ld1⟩
      · dsimp only
        exact wpAny_pure (gone h1 b r)
end
end L2.EV
set_option Elab.async false
set_option linter.all false
set_option maxRecDepth 100000
set_option maxHeartbeats 4000000
namespace L2.K57
open PySem PySem.Spec PyProof.Rows L2.EV L2 Srt
/-! ### sets of texts over the layer: made of a list, added to, sorted -/
def SetX (P : Program) (w : World) (a : Addr) (L : List Str) : HO := .ext (TxAt P w a L)
theorem setX_ok {P : Program} {w : World} {H : Hp} {h : Heap} {a : Addr} {L : List Str} (R : TxAt P w a L h) : ObjOk P w H h a (SetX P w a L) := by
  have ⟨o, _, _, _, r⟩ := R
  exact ⟨R, ⟨o, r.here⟩, fun h1 h2 p k => TxAt.keep p k⟩
section
variable {X : Cx}
theorem setX_get {pins : List (Addr × Obj)} {σ : St} {H : Hp} {s : Shared} {a : Addr} {L : List Str} (I : Inv X pins σ H s) (ha : H a = some (SetX X.prog X.w a L)) : TxAt X.prog X.w a L s.heap := (I.hok a _ ha).1
theorem tx_fresh {P : Program} {w : World} {h : Heap} {a : Addr} (e : h.get? a = some (newS w)) : TxAt P w a [] h := by
  refine ⟨_, #[], 0, _, e, ⟨rfl, rfl, rfl⟩, rfl, fun e he => by simp at he, List.Perm.refl _, List.nodup_nil, by decide, rfl, List.Pairwise.nil, ?_⟩
  show _ ∨ (!w.params.followText "set-order") = true
  cases w.params.followText "set-order" with
  | true => exact .inl rfl
  | false => exact .inr rfl
def BagX (P : Program) (w : World) (S : Addr) (ws : List Str) (i : Nat) (h : Heap) : Prop := ∃ L, TxAt P w S L h ∧ (∀ x, x ∈ L ↔ x ∈ ws.take i) ∧ L.length ≤ i ∧ L.Nodup
theorem bag_texts {P : Program} {w : World} {A : Around} {S : Addr} {h0 : Heap} {items : Array Value} {ws : List Str} (few : items.size ≤ 1000) (hv : ∀ (i : Nat) (v : Value), items[i]? = some v → ∃ x tk, ws[i]? = some x ∧ v = .str x tk) :
    Bag P w A S h0 (fun i v => items[i]? = some v) items.size (BagX P w S ws) where
  stay := fun i h h' ⟨L, t, m, n, d⟩ k _ => ⟨L, t.keep k, m, n, d⟩
  put := fun i v s E Q lt pv ⟨L, t, m, n, d⟩ k q => by
    obtain ⟨x, tk, ex, rfl⟩ := hv i v pv
    unfold setAdd
    refine wpAny_holding (wpAny_bind ((strKind P w).pyHash (strKind_is P w x tk) ?_))
    refine tx_add (s := { s with toks := s.toks + 1 }) t (by unfold scanBound; omega) fun c h1 b r => q c h1 (s.toks + 1) (Nat.le_succ _) b ⟨_, r, fun y => ?_, ?_, ?_⟩
    · have et : ws.take (i + 1) = ws.take i ++ [x] := by rw [List.take_succ, ex]; rfl
      rw [et, List.mem_append, List.mem_singleton, ← m y]
      by_cases hx : x ∈ L
      · rw [if_pos hx]
        exact ⟨.inl, fun z => z.elim id fun e => e ▸ hx⟩
      · rw [if_neg hx, List.mem_append, List.mem_singleton]
    · split
      · omega
      · rw [List.length_append, List.length_singleton]; omega
    · split
      · exact d
      · next hx => exact List.nodup_append.mpr ⟨d, by simp, fun y hy z hz e => hx (by rw [← List.mem_singleton.mp hz, ← e]; exact hy)⟩
theorem strs_at : ∀ {ws : List Str} {us : List Value}, Vals (ws.map V.str) us → ∀ (i : Nat) (v : Value), us[i]? = some v → ∃ x tk, ws[i]? = some x ∧ v = .str x tk
  | [], _, .nil, i, v, h => by simp at h
  | x :: ws, _, .cons r t, 0, v, h => by
    obtain ⟨tk, rfl⟩ := r
    cases h
    exact ⟨x, tk, rfl, rfl⟩
  | x :: ws, _, .cons r t, i + 1, v, h => strs_at t i v (by simpa using h)
/-- set(xs) of texts -/
def rSetX (K : PySem.W.Frag) (P : Program) (w : World) : List V → Hp → VK → Prop := fun xs H Q => ∃ (l : Addr) (ws : List Str), xs = [.ref l] ∧ SqL K H l (ws.map V.str) ∧ ws.length ≤ 900 ∧
  ∀ p L, H p = none → L.Nodup → (∀ x, x ∈ L ↔ x ∈ ws) → L.length ≤ ws.length → Q (.ref p) (upd H p (SetX P w p L))
theorem cr_setX (hc : X.calm = true) : CallR X (.type "set") (rSetX X.K X.prog X.w) := by
  intro pins s σ H xs us Q I r h
  obtain ⟨l, ws, rfl, hq, hn, q⟩ := h
  obtain ⟨u, rfl, rx⟩ := vals1 r
  cases rx
  obtain ⟨its, rv, pl, _⟩ := I.list hq
  have hl : its.toArray.size = ws.length := by rw [List.size_toArray, ← rv.length, List.length_map]
  refine bag_call (T := BagX X.prog X.w s.heap.objs.size ws) (I.ok.hd hc) pl.isList (bag_texts (by omega) fun i v h1 => strs_at rv i v (by simpa using h1)) (fun h' e => ⟨[], tx_fresh e, fun x => by simp, Nat.le_refl _, List.nodup_nil⟩) fun h' tk t kp => ?_
  obtain ⟨L, t, m, n, d⟩ := t
  rw [hl] at n
  rw [hl, List.take_length] at m
  exact ⟨.ref s.heap.objs.size, _, I.laid (t' := tk) kp (Nat.le_refl _) (setX_ok t), rfl, q _ L (I.hok.fresh (Nat.le_refl _)) d m n⟩
/-- s.add(x) of a text -/
def tSAddX (P : Program) (w : World) (to te : TE) : TE := fun σ H Q => to σ H fun x H1 => ∃ a L, x = .ref a ∧ H1 a = some (SetX P w a L) ∧ te σ H1 fun y H2 => ∃ z L', y = .str z ∧ H2 a = some (SetX P w a L') ∧ L'.length < 1000 ∧ Q .non (upd H2 a (SetX P w a (if z ∈ L' then L' else L' ++ [z])))
theorem tx_type {P : Program} {w : World} {a : Addr} {L : List Str} {s : Shared} (R : TxAt P w a L s.heap) : s.TypeIs (.ref a) "set" := by
  obtain ⟨o, es, ep, t, r⟩ := R
  exact ⟨o, r.here, r.exact_.1⟩
theorem pe_saddX {o e : Expr} {to te : TE} {apos cpos : Pos} (ho : PE X o to) (he : PE X e te) (hb : attributeBase o "add" X.env (eval o X.env) = eval o X.env := by rfl)
    (hf : ((backTo cpos (starEach [e] X.env)).all (fun x => !x.1) && (backToKw cpos (keywordEach [] X.env)).all (fun x => x.1.isSome) && decide (([e] : List Expr).length + ([] : List Keyword).length + (if ([] : List Keyword).isEmpty then 0 else 1) < 30)) = true := by rfl)
    (hl : (apos.endLine == cpos.line) = true := by rfl) (hs : starEach [e] X.env = (false, eval e X.env) :: starEach [] X.env := by rfl) :
    PE X (.Call (.Attribute o "add" apos) [e] [] cpos) (tSAddX X.prog X.w to te) := by
  have ha := pa_cons he pa_nil hs
  refine ⟨fun pins s σ H Q I h => ?_⟩
  refine wpAny_Call_method_late hb hf hl rfl (thn (ho.run pins s σ H _ I h) fun v s1 ⟨x, H1, I1, r1, a, L, ex, g1, q1⟩ => ?_)
  subst ex
  cases (show v = Value.ref a from r1)
  have R := setX_get I1 g1
  have nd : ∀ b, Value.ref a = .ref b → ∃ ob, s1.heap.get? b = some ob ∧ ob.dict = none := fun b e => by
    cases e
    have ⟨ob, es, ep, t, r⟩ := R
    exact ⟨ob, r.here, r.exact_.2.1⟩
  refine ⟨"set", "set.add", F.plainAttrs_set, F.slot_set_add, F.type_set_add, tx_type R, nd, ?_⟩
  have hA := ha.run cpos pins s1 σ H1 (fun vs H2 => match vs with | [y] => ∃ z L', y = .str z ∧ H2 a = some (SetX X.prog X.w a L') ∧ L'.length < 1000 ∧ Q .non (upd H2 a (SetX X.prog X.w a (if z ∈ L' then L' else L' ++ [z]))) | _ => False) I1 q1
  rw [hs] at hA ⊢
  refine Calls.callWith_builtin (by rfl) (Calls.evalArgs_plain ?_)
  refine thn hA fun us s2 ⟨vs, H2, I2, r2, q2⟩ => ?_
  match vs, r2, q2 with
  | [y], r2, ⟨z, L', ey, g2, few, q2⟩ =>
    subst ey
    obtain ⟨u, rfl, ru⟩ := vals1 r2
    obtain ⟨tk, rfl⟩ := ru
    have R2 := setX_get I2 g2
    refine wpAny_call_entry F.slot_set_add (tx_type R2) F.entry_set_add ?_ (F.args_set_add_2 _ _)
    unfold Builtin.«set.add»
    unfold Builtin.Frozenset.oneOther
    simp only [List.isEmpty_nil, bind_assoc]
    unfold Builtin.Frozenset.addrOf
    unfold setAdd
    refine wpAny_bind (wpAny_pure ?_)
    dsimp only
    refine wpAny_bind (wpAny_holding (wpAny_bind ((strKind X.prog X.w).pyHash (strKind_is X.prog X.w z tk) ?_)))
    refine tx_add (s := { s2 with toks := s2.toks + 1 }) R2 (by unfold scanBound; omega) fun c h1 b r => ?_
    show wpAny _ _ (ret Value.none) _ _ _
    refine wpAny_pure ⟨_, rfl, ?_⟩
    have he : ∃ u, h1.get? a = some u := by
      have ⟨o, _, _, _, k⟩ := r
      exact ⟨o, k.here⟩
    exact ⟨.non, _, I2.write (e := a) (t' := s2.toks + 1) (by rw [g2]; trivial) (.inl rfl) (fun c u hc hu => (b.2 c hc).trans hu) he (setX_ok r), rfl, q2⟩
end
end L2.K57
set_option Elab.async false
set_option linter.all false
set_option maxRecDepth 100000
set_option maxHeartbeats 4000000
namespace L2.K57
open PySem PySem.Spec PyProof.Rows L2.EV L2
/-! ### sorted(set of texts) -/
theorem tx_each {P : Program} {w : World} {h : Heap} {a : Addr} {L : List Str} {o : Obj} {es : Array (Int × Value)} {ep : Nat} {t : SetTable} (R : TxS P w h a L o es ep t) {vs : List Value} (pm : vs.Perm (es.toList.map (·.2))) :
    ∃ ws : List Str, ws.Perm L ∧ PySem.W.EachIs (fun u x => ∃ tk, u = Value.str x tk) vs ws := by
  have all : ∀ v ∈ vs, ∃ x tk, v = Value.str x tk := fun v hv => by
    obtain ⟨e, he, q⟩ := List.mem_map.mp (pm.mem_iff.mp hv)
    obtain ⟨x, tk, rfl⟩ := R.rows e he
    exact ⟨x, tk, q.symm⟩
  refine ⟨vs.map fun v => rkT (0, v), ?_, ?_⟩
  · refine (pm.map _).trans ?_
    rw [List.map_map]
    refine List.Perm.trans (List.Perm.of_eq (List.map_congr_left fun e he => ?_)) R.perm
    obtain ⟨x, tk, rfl⟩ := R.rows e he
    rfl
  · clear pm
    induction vs with
    | nil => exact .nil
    | cons v vs ih =>
      obtain ⟨x, tk, rfl⟩ := all v List.mem_cons_self
      exact .cons ⟨tk, rfl⟩ (ih fun u hu => all u (List.mem_cons_of_mem _ hu))
theorem each_imp {α β : Type} {R S : α → β → Prop} (h : ∀ a b, R a b → S a b) : ∀ {l : List α} {m : List β}, PySem.W.EachIs R l m → PySem.W.EachIs S l m
  | _, _, .nil => .nil
  | _, _, .cons a b => .cons (h _ _ a) (each_imp h b)
theorem vals_each : ∀ {vs : List Value} {ws : List Str}, PySem.W.EachIs (fun u x => ∃ tk, u = Value.str x tk) vs ws → Vals (ws.map V.str) vs
  | _, _, .nil => .nil
  | _, _, .cons ⟨tk, e⟩ b => .cons ⟨tk, e⟩ (vals_each b)
theorem sorted_texts {P : Program} {w : World} {A : Around} {E : Value → Shared → Prop} {s : Shared} {a : Addr} {L : List Str} {Q : Value → Shared → Prop} (R : TxAt P w a L s.heap) (hh : A.handled = none) (few : L.length ≤ 1000) (hu : A.units + 64 < cLine)
    (q : ∀ s2 p (out : List Value) (c : Nat), (∀ b o, s.heap.get? b = some o → s2.heap.get? b = some o) → s2.gens = s.gens → s2.os = s.os → s.heap.objs.size ≤ p → s2.heap.get? p = some (seqObj "list" out.toArray c) → Vals ((srtW L).map V.str) out → Q (.ref p) s2) :
    wpAny (model P w) A (call (.builtin "sorted") [.ref a]) Q E s := by
  obtain ⟨o, es, ep, t, R⟩ := R
  refine Calls.call_function_entry kind_sorted plain_sorted entry_sorted (args_sorted1 _) ?_
  unfold Builtin.«sorted»
  refine wpAny_bind (m := checkCount "sorted" 1 1 _) (wpAny_pure ?_)
  refine wpAny_bind (collect_set (A := A.in1) hh ⟨o, R.here, R.exact_.1, R.data⟩ R.fits R.few R.ris R.led fun s1 vs k1 z1 g1 o1 pm => ?_)
  obtain ⟨ws, pw, ew⟩ := tx_each R pm
  have lv : vs.length ≤ sizeLine := by
    rw [ew.length, pw.length_eq, sizeLine_eq]
    omega
  refine wpAny_bind (wpAny_newList ?_ lv)
  have gL : (s1.heap.push (seqObj "list" vs.toArray 0)).get? s1.heap.objs.size = some (seqObj "list" vs.toArray 0) := Heap.get?_push_size _ rfl
  have rd : ∀ h : Heap, PySem.W.EachIs (fun u x => ∃ as, Reads h u (PyData.str x) as) vs ws := fun h => each_imp (fun u x ⟨tk, e⟩ => ⟨_, by rw [e]; exact .str x tk⟩) ew
  have al : PySem.W.AllAlike (ws.map PyData.str) := PySem.W.AllAlike.of fun x y => by simp [PySem.W.alike]
  have so : PySem.W.Sortable (ws.map PyData.str) := PySem.W.Sortable.others fun x => ⟨fun e => by (cases e), fun xs e => by cases e⟩
  refine wpAny_bind (wpAny_holding (wpAny_call_entry slot_list_sort ⟨_, gL, rfl⟩ entry_list_sort (PySem.W.list_sort_vals gL (PySem.W.SortsAt.data (PySem.W.each_map (R := fun v d => ∃ as, Reads _ v d as) PyData.str (rd _)) al so fun d hd => ?_) lv ⟨_, rfl, ?_⟩) (args_list_sort _)))
  · obtain ⟨x, _, rfl⟩ := List.mem_map.mp hd
    show A.in1.in1.units + PyData.depth (.str x) < cLine
    simp only [PyData.depth, Around.in1_units]
    omega
  · have eo := PySem.W.sortVals_data (h' := _) (enc := PyData.str) (R := fun u x => ∃ tk, u = Value.str x tk) false ew (rd (PySem.W.sortingHeap (s1.heap.push (seqObj "list" vs.toArray 0)) s1.heap.objs.size vs)) al
    obtain ⟨c, hc⟩ := sortedHeap_at (vs := vs) (out := (PySem.W.sortVals (PySem.W.dataKind (PySem.W.sortingHeap (s1.heap.push (seqObj "list" vs.toArray 0)) s1.heap.objs.size vs) (ws.map PyData.str)) false vs vs).toArray) gL
    have es2 : srtW ws = srtW L := srtW_eq pw
    refine wpAny_pure ⟨_, rfl, q _ s1.heap.objs.size _ c (fun b u e => ?_) g1 o1 z1 hc ?_⟩
    · have e1 := k1 b u e
      have lt := Heap.lt_size e1
      show (sortedHeap (s1.heap.push (seqObj "list" vs.toArray 0)) s1.heap.objs.size vs _).get? b = some u
      rw [sortedHeap_old (Nat.ne_of_lt lt) (by rw [size_push']; exact Nat.lt_succ_of_lt lt)]
      exact Heap.get?_push_of_some _ e1
    · rw [← es2]
      exact vals_each eo
/-- sorted(s), s a set of texts -/
def rSortedX (P : Program) (w : World) : List V → Hp → VK → Prop := fun xs H Q => ∃ (a : Addr) (L : List Str), xs = [.ref a] ∧ H a = some (SetX P w a L) ∧ L.length ≤ 1000 ∧ ∀ p, H p = none → Q (.ref p) (upd H p (.lst ((srtW L).map V.str)))
theorem cr_sortedX {X : Cx} (hc : X.calm = true) (hu : X.A.units + 64 < cLine) : CallR X (.builtin "sorted") (rSortedX X.prog X.w) := by
  intro pins s σ H vs us Q I r h
  obtain ⟨a, L, rfl, ha, few, q⟩ := h
  rw [Vals.ref1 r]
  refine sorted_texts (setX_get I ha) (I.ok.hd hc) few hu fun s2 p out c k g o hp hg hv => ?_
  have hn : H p = none := I.hok.fresh hp
  have z : ((srtW L).map V.str).length ≤ sizeLine := by
    rw [List.length_map, (srtW_perm L).length_eq, sizeLine_eq]
    omega
  have J : Inv X pins σ (upd H p (.lst ((srtW L).map V.str))) { s with heap := s2.heap, gens := s2.gens, drawn := s2.drawn, toks := s2.toks } :=
    I.call (ch := []) (Un.laid k hp hn) (I.hok.laid k hp ⟨z, out, c, hv, hg⟩) (by rw [g]; exact I.bare) (fun _ y => nomatch y)
  have e : s2 = { s with heap := s2.heap, gens := s2.gens, drawn := s2.drawn, toks := s2.toks } := by
    cases s2
    cases s
    cases o
    rfl
  rw [e]
  exact ⟨.ref p, _, J, rfl, q p hn⟩
end L2.K57
set_option Elab.async false
set_option linter.all false
set_option maxRecDepth 100000
set_option maxHeartbeats 0
namespace L2.EV
open PySem PySem.Spec PyProof.Rows
/-! ### facts of own classes of errors, by names -/
def clsB (K : PySem.W.Frag) (C : Addr) : Bool := match K.lookup C with
  | some ⟨.type "type", _, .cls c, sl⟩ => (match c.mro, sl.toList with
    | .ref D :: up, [_, _, _, _, some (.builtin n), _] => D == C && n == "ValueError.__new__" && !c.hasDel && c.hasDict && PySem.HandSPX.refsVE up
    | _, _ => false)
  | _ => false
theorem clsB_ok {K : PySem.W.Frag} {C : Addr} (h : clsB K C = true) : ∃ nm q N bs bm sn sub ab col dd k0 k1 k2 k3 k5, K.lookup C = some (excClassObj nm q C N bs bm true sn sub ab col dd k0 k1 k2 k3 k5 "ValueError.__new__") ∧ PySem.HandSPX.refsVE bm = true := by
  unfold clsB at h
  split at h
  · next dd c sl e =>
    split at h
    · next D up k0 k1 k2 k3 n k5 em es =>
      obtain ⟨nm, bs, mro, N, qn, hd, sn, sub, ab, col, del⟩ := c
      dsimp only at em h
      subst em
      have esl : sl = #[k0, k1, k2, k3, some (.builtin n), k5] := Array.toList_inj.mp (by rw [es])
      subst esl
      simp only [Bool.and_eq_true, beq_iff_eq, Bool.not_eq_true'] at h
      obtain ⟨⟨⟨⟨rfl, rfl⟩, rfl⟩, rfl⟩, hr⟩ := h
      exact ⟨nm, qn, N, bs, up, sn, sub, ab, col, dd, k0, k1, k2, k3, k5, e, hr⟩
    · cases h
  · cases h
def isB (a b : Option (Option Value)) : Bool := decide (a = b)
/-- an own class with an __init__ that stores one field -/
def errB (K : PySem.W.Frag) (x : Str) : Bool :=
  let C := He.ga K x
  let f := He.ma K C "__init__"
  [He.Fa.ok K (.glo x), clsB K C, isB (PySem.W.findIn K (.ref C) "__setattr__") (some (some (.builtin "object.__setattr__"))),
   decide (PySem.W.subIn K (.ref C) (.type "BaseException") = some true), decide (PySem.W.typeIn K (.ref C) = some (.type "type")),
   PySem.W.keepIn K (.ref C), isB (PySem.W.findIn K (.ref C) "value") (some none), isB (PySem.W.findIn K (.ref C) "__init__") (some (some (.ref f))),
   decide (PySem.W.typeIn K (.ref f) = some (.type "function")),
   isB (PySem.W.findIn K (.ref C) "__getattribute__") (some (some (.builtin "BaseException.__getattribute__"))),
   isB (PySem.W.findIn K (.ref C) "__getattr__") (some none), PySem.W.hasDictIn K C].all id
theorem errB_ok {K : PySem.W.Frag} {x : Str} (h : errB K x = true) : He.Fa.ok K (.glo x) = true ∧ Err K (He.ga K x) (He.ma K (He.ga K x) "__init__") := by
  unfold errB isB at h
  simp only [List.all_cons, List.all_nil, id, Bool.and_true, Bool.and_eq_true, decide_eq_true_eq] at h
  obtain ⟨h0, h1, h2, h3, h4, h5, h6, h7, h8, h9, h10, h11⟩ := h
  exact ⟨h0, ⟨⟨clsB_ok h1, h2, h3, h4, h5⟩, h6, h7, h8, ⟨h9, h10, h3, h11⟩⟩⟩
/-- how isinstance asks the instances of the class at C -/
def asksB (K : PySem.W.Frag) (C : Addr) : Bool :=
  [(PySem.W.clsIn K C).isSome, isB (PySem.W.findIn K (.ref C) "__getattribute__") (some (some (.builtin "BaseException.__getattribute__"))),
   isB (PySem.W.findIn K (.ref C) "__getattr__") (some none), decide (PySem.W.subIn K (.ref C) (.type "BaseException") = some true),
   isB (PySem.W.findIn K (.ref C) "__class__") (some (some (.builtin "object.__class__"))),
   decide (PySem.W.specialIn K (.builtin "object.__class__") "__get__" = some (some (.builtin "getset_descriptor.__get__"))),
   decide (PySem.W.takesIn K (.builtin "object.__class__") = some true), decide (PySem.W.mroIn K C (.type "object") = some true)].all id
theorem asksB_ok {K : PySem.W.Frag} {C : Addr} (h : asksB K C = true) : Asks K C := by
  unfold asksB isB at h
  simp only [List.all_cons, List.all_nil, id, Bool.and_true, Bool.and_eq_true, decide_eq_true_eq] at h
  obtain ⟨h0, h1, h2, h3, h4, h5, h6, h7⟩ := h
  exact ⟨h0, h1, h2, h3, h4, h5, h6, h7⟩
/-! ### such an __init__ -/
abbrev nInit : List Str := ["self", "value"]
theorem ok_init {P : Program} {w : World} {K : PySem.W.Frag} {mg : Str → Option Value} {base : Heap} {st : Stmt} {q : Str} {f C fI : Addr} {fd : FuncData} {dvs : List V} {p1 p2 p3 p4 : Pos}
    (F : FunD K "__init__" q (defArgs st) (defBody st) (defScope st) dvs [] f fd) (S : FnScope nInit nInit (defScope st)) (l1 : (defScope st).names.lookup ("self" : Str) = some NameKind.local) (l2 : (defScope st).names.lookup ("value" : Str) = some NameKind.local)
    (hb : defBody st = [.Assign [.Attribute (.Name "self" p1) "value" p2] (.Name "value" p3) p4]) (E : Err K C fI) : FnOk P w K mg base CX0 1 f fd nInit (spInit C) := by
  refine F.ok S (fun vs H Q E h => ?_) (fun cdv A outer s H vs Q E' hr h => ?_)
  · obtain ⟨a, v, rfl, _⟩ := h
    rfl
  · obtain ⟨a, v, rfl, ha, k⟩ := h
    rw [hb]
    refine ⟨_, PSs.nox (pss_one (ps_ost (pv 0 rfl (Or.inl l1)) (pv 1 rfl (Or.inl l2)))), ?_⟩
    exact ⟨_, rfl, _, rfl, a, C, rfl, E.ox, E.noV, .inl ⟨ha, k⟩⟩
end L2.EV
set_option Elab.async false
set_option linter.all false
set_option maxRecDepth 100000
set_option maxHeartbeats 4000000
namespace L2.EV
open PySem PySem.Spec PyProof.Rows
abbrev argsI (a1 a2 a3 : Pos) : Arguments := { posonlyargs := [], args := [⟨"self", none, a1⟩, ⟨"value", none, a2⟩], vararg := none, kwonlyargs := [], kw_defaults := [], kwarg := none, defaults := [.Constant .none 0 a3] }
abbrev bodyI (p1 p2 p3 p4 : Pos) : List Stmt := [.Assign [.Attribute (.Name "self" p1) "value" p2] (.Name "value" p3) p4]
abbrev scopeI : Scope := { kind := .function, names := [("self", .local), ("value", .local)], isGenerator := false, isCoroutine := false }
/-- def __init__(self, value=None): self.value = value -/
structure Init1 (st : Stmt) : Prop where
  ex : ∃ a1 a2 a3 p1 p2 p3 p4, defArgs st = argsI a1 a2 a3 ∧ defBody st = bodyI p1 p2 p3 p4 ∧ defScope st = scopeI
theorem scI : FnScope nInit nInit scopeI := ⟨rfl, rfl, rfl, by decide +kernel, rfl, by decide +kernel, by decide +kernel⟩
theorem ck_of {P : Program} {w : World} {K : PySem.W.Frag} {mg : Str → Option Value} {base : Heap} {st : Stmt} {x q : Str} {fd : FuncData} (I : Init1 st)
    (F : FunD K "__init__" q (defArgs st) (defBody st) (defScope st) [.non] [] (He.ma K (He.ga K x) "__init__") fd) (gx : mg x = some (.ref (He.ga K x))) (E : Err K (He.ga K x) (He.ma K (He.ga K x) "__init__")) : Ck P w K mg base x (He.ga K x) := by
  obtain ⟨a1, a2, a3, p1, p2, p3, p4, e1, e2, e3⟩ := I.ex
  have S : FnScope nInit nInit (defScope st) := by rw [e3]; exact scI
  refine ⟨gx, _, fd, E, ok_init (p1 := p1) (p2 := p2) (p3 := p3) (p4 := p4) F S (by rw [e3]; rfl) (by rw [e3]; rfl) e2 E, ?_, ?_, ?_⟩
  · rw [e1] at F
    obtain ⟨ds, rv, b⟩ := F.binds1 (ps := nInit) 2 1 (by simp) rfl fun T kV doc pm an cdv ct us its l1 l2 => match us, its, l1, l2 with | [_, _], [_], _, _ => ⟨_, rfl, rfl⟩
    cases rv
    exact fun s self u X => b s [self, u] X rfl
  · rw [e1] at F
    obtain ⟨ds, rv, b⟩ := F.binds1 (ps := nInit) 1 0 (by simp) rfl fun T kV doc pm an cdv ct us its l1 l2 => match us, its, l1, l2 with | [_], [_], _, _ => ⟨_, rfl, rfl⟩
    obtain ⟨d, rfl, r1⟩ := rv.one
    cases (show d = Value.none from r1)
    exact fun s self X => b s [self] X rfl
  · rw [e1] at F
    obtain ⟨its, b⟩ := F.kbindsD (ps := nInit) 1 ["value"] (fun us _ ws => us ++ ws) (by simp) (fun r1 _ r3 => r1.append r3) fun T kV doc pm an cdv ct us its ws l1 l2 l3 => match us, its, ws, l1, l2, l3 with | [_], [_], [_], _, _, _ => ⟨_, rfl, rfl⟩
    exact fun s self u X => b.to s [self] [u] X rfl rfl
end L2.EV
set_option Elab.async false
set_option linter.all false
set_option maxRecDepth 100000
set_option maxHeartbeats 4000000
namespace L2.EV
open PySem PySem.Spec PyProof.Rows
/-! ### raise C(e), C an own class of errors whose __init__ stores its one field -/
/-- the least reading that asks what te asks, and may be weakened -/
def mno (te : TE) : TE := fun σ H Q => ∃ Q0 : VK, te σ H Q0 ∧ ∀ v H', Q0 v H' → Q v H'
theorem pe_mno {X : Cx} {e : Expr} {te : TE} (he : PE X e te) : PE X e (mno te) :=
  ⟨fun pins s σ H Q I ⟨Q0, h, m⟩ => thn (he.run pins s σ H Q0 I h) fun u s1 ⟨v, H1, I1, r, q⟩ => ⟨v, H1, I1, r, m v H1 q⟩⟩
theorem PS.imp {X : Cx} {st : Stmt} {t t' : TS} (h : PS X st t) (m : ∀ D σ H, t' D σ H → t D σ H) : PS X st t' := ⟨fun pins s σ H D I q => h.run pins s σ H D I (m D σ H q)⟩
theorem PE.imp {X : Cx} {e : Expr} {t t' : TE} (h : PE X e t) (m : ∀ σ H Q, t' σ H Q → t σ H Q) : PE X e t' := ⟨fun pins s σ H Q I q => h.run pins s σ H Q I (m σ H Q q)⟩
theorem PA.imp {X : Cx} {es : List Expr} {t t' : TA} (h : PA X es t) (m : ∀ σ H Q, t' σ H Q → t σ H Q) : PA X es t' := ⟨fun pos pins s σ H Q I q => h.run pos pins s σ H Q I (m σ H Q q)⟩
theorem made_heap {H : Hp} {a d C : Addr} {fs : List (Str × V)} (ha : H a = none) (hd : H d = none) (ne : d ≠ a) :
    upd (del (upd (upd (upd H a (exo a C none)) d (exd d fs)) a (exo a C (some d))) a) d (.xd fs) = upd H d (.xd fs) := by
  funext b
  by_cases e1 : b = d
  · rw [e1, upd_same, upd_same]
  · rw [upd_ne e1, upd_ne e1]
    by_cases e2 : b = a
    · rw [e2, del_same, ha]
    · rw [del_ne e2, upd_ne e2, upd_ne e1, upd_ne e2]
theorem ps_rz {X : Cx} {C : Addr} {x : Str} {W : WX} {e : Expr} {te : TE} {p pos pos2 : Pos} (c : Ck X.prog X.w X.K X.mg X.base x C) (hc : X.calm = true) (hr : Room 2 X.A) (tk : Takes X W) (he : PE X e te) (hg : Gl X x := by rfl)
    (hdb : (x == ("__debug__" : Str)) = false := by decide) (hs : starEach [e] X.env = (false, eval e X.env) :: starEach [] X.env := by rfl) :
    PS X (.Raise (some (.Call (.Name x p) [e] [] pos)) none pos2) (fun _ σ H => te σ H fun v H1 => ∀ d, H1 d = none → W (.ref C) (some d) σ (upd H1 d (.xd [(("value" : Str), v)]))) := by
  obtain ⟨fI, fd, E, F, b1, b0, bk⟩ := c.ex
  have hb : Binds X.K fd ["self", "value"] [] := fun s us KX hl => by
    rw [List.append_nil] at hl ⊢
    match us, hl with
    | [self, u], _ => exact b1 s self u KX
  refine PS.imp (ps_raise hc tk (pmk_oex E.ox E.iC E.tI F hr hb .nil pass0 hg c.mgx (pa_cons (pe_mno he) pa_nil hs) hdb hs (by rfl))) fun D σ H q => ?_
  refine ⟨_, q, fun v H1 z => ⟨(by show 1 ≤ 1000; decide), fun a ha => ?_⟩⟩
  refine ⟨a, v, rfl, upd_same, fun dx hdx ne => ⟨rfl, dx, [(("value" : Str), v)], upd_same, ?_, ?_, ?_⟩⟩
  · rw [upd_ne ne]
    exact upd_same
  · rw [upd_ne ne] at hdx
    exact hdx
  · have hd : H1 dx = none := by
      rw [upd_ne ne] at hdx
      exact hdx
    show W (.ref C) (some dx) σ _
    rw [made_heap ha hd ne]
    exact z dx hd
/-! ### isinstance of the error that a suite holds -/
/-- isinstance(e, c) | isinstance(e, (c1, ..)): e at a, of the class cls, its dict d -/
def rIsS (K : PySem.W.Frag) (a : Addr) (cls : Value) (d : Option Addr) : List V → Hp → VK → Prop := fun xs H Q => ∃ (C dd : Addr) (fs : List (Str × V)) (c : V) (b : Bool), xs = [.ref a, c] ∧ cls = .ref C ∧ d = some dd ∧ H dd = some (.xd fs) ∧ Asks K C ∧
  ((∃ cv, ClsV c cv ∧ PySem.W.kitOne K (.ref C) cv = some b) ∨ ∃ (tp : Addr) (cs : List V) (us : List Value), c = .ref tp ∧ H tp = some (.tup cs) ∧ Paired ClsV cs us ∧ PySem.W.kitAny K (.ref C) us = some b) ∧ Q (.bl b) H
theorem call_isS {X : Cx} {a : Addr} {oe : Obj} {cls : Value} {d : Option Addr} {pn : List (Addr × Obj)} (hz : Zc cls d oe) (hf : ∃ vs, oe.data = .fields vs) : CallR (X.suite a ((a, oe) :: pn)) (.builtin "isinstance") (rIsS X.K a cls d) := by
  intro pins s σ H xs us Q I r h
  obtain ⟨C, dd, fs, c, b, rfl, rfl, rfl, hd, T, hk, q⟩ := h
  obtain ⟨u1, u2, rfl, r1, r2⟩ := vals2 r
  cases (show u1 = Value.ref a from r1)
  obtain ⟨ha, _⟩ := I.pin (a, oe) (List.mem_append_left _ List.mem_cons_self)
  obtain ⟨vs, hdat⟩ := hf
  obtain ⟨mA, hns, _⟩ := (show ObjOk X.prog X.w H s.heap dd (.xd fs) from I.hok dd _ hd)
  obtain ⟨od, ho, _⟩ := lookIn_ns hns
  have J : PySem.W.InstAt s.heap a oe C (some od) := ⟨ha, hz.1, by unfold PySem.W.notCls; rw [hdat] <;> rfl, by rw [hz.2]; exact ho⟩
  have Z := PySem.W.kitx_exc (x := a) (od := some od) T.hcl T.hga T.hgt T.hsub T.ha T.hn T.ht T.hm (ox := oe)
  rcases hk with ⟨cv, hc, e⟩ | ⟨tp, cs, ws, rfl, hT, k, e⟩
  · have e2 := hc.eq r2
    subst e2
    exact PySem.W.kia_one Z I.kIn J e (fun z => nomatch z) fun tk => ⟨.bl b, H, I.tok tk, rfl, q⟩
  · cases (show u2 = Value.ref tp from r2)
    obtain ⟨_, its, rv, o, h1, h2, n, h3⟩ := (show ObjOk X.prog X.w H s.heap tp (.tup cs) from I.hok tp _ hT)
    have e3 := ClsV.all k rv
    subst e3
    obtain ⟨oc, odd, dt, sl⟩ := o
    simp only at h2 h3
    subst h2 h3
    exact PySem.W.kia_tup Z I.kIn J h1 e (fun z => nomatch z) fun tk => ⟨.bl b, H, I.tok tk, rfl, q⟩
end L2.EV
set_option Elab.async false
set_option linter.all false
set_option maxRecDepth 100000
set_option maxHeartbeats 4000000
namespace L2.EV
open PySem PySem.Spec PyProof.Rows
/-! ### try: body, then several clauses 'except X as n', all with the one name n (slot i) -/
abbrev Suite : Type := Addr → Value → Option Addr → TS
/-- behind a suite its name is gone -/
def offI (i : Nat) (D : Ends) : Ends := { nx := fun σ H => D.nx (σ.set i none) H, rt := D.rt, bk := fun σ H => D.bk (σ.set i none) H, ct := fun σ H => D.ct (σ.set i none) H }
def wNmd (K : PySem.W.Frag) (i : Nat) (Wout : WX) (D : Ends) : List (Value × Suite) → WX
  | [] => Wout
  | q :: r => fun cls d σ H => ∃ b, PySem.W.exmOne K cls q.1 = some b ∧ if b = true then ∀ a, H a = none → q.2 a cls d (offI i D) (σ.set i (some (.ref a))) H else wNmd K i Wout D r cls d σ H
inductive Clauses (X : Cx) (n : Str) : List ExceptHandler → List (Value × Suite) → Prop
  | nil : Clauses X n [] []
  | cons {x : Str} {c : Value} {u : Suite} {s0 : Stmt} {ss : List Stmt} {p1 p2 : Pos} {hs : List ExceptHandler} {qs : List (Value × Suite)} (nm : Names X x c)
      (su : ∀ (a : Addr) (oe : Obj) (cls : Value) (d : Option Addr) (pn : List (Addr × Obj)), Zc cls d oe → (∃ vs, oe.data = .fields vs) → PSs (X.suite a ((a, oe) :: pn)) (s0 :: ss) (u a cls d)) (tl : Clauses X n hs qs) :
      Clauses X n (.ExceptHandler (some (.Name x p1)) (some n) (s0 :: ss) p2 :: hs) ((c, u) :: qs)
section
variable {X : Cx} {n : Str} {i : Nat} {Wout : WX}
/-- what stands when the clauses are looked at -/
structure Held (X : Cx) (pins : List (Addr × Obj)) (σ : St) (H : Hp) (a : Addr) (B : Heap) (cls : Value) (d : Option Addr) (sI s : Shared) : Prop where
  inv : Inv X pins σ H sI
  nb : ∀ b o, sI.heap.get? b = some o → b ∉ frs X.stack → B.get? b = some o
  up : sI.heap.UpToSlots s.heap
  na : H a = none
  os : s.os = sI.os
  ag : AllBare s.gens
  fl : HandSPX.FlyingZ B (X.env :: X.outer) a (Zc cls d) s.heap
theorem clauses_run (hs : X.stack = X.env :: X.outer) (hf : X.env.frame = some X.env.locals) (hN : X.N.Nodup) (hi : X.N[i]? = some n) (hl : X.env.kindOf n = some .local) (tk : Takes X Wout) {pins : List (Addr × Obj)} {σ : St} {H : Hp} {D : Ends} {a : Addr} {B : Heap}
    {cls : Value} {d : Option Addr} {sI s : Shared} (Z : Held X pins σ H a B cls d sI s) : ∀ {hds : List ExceptHandler} {qs : List (Value × Suite)}, Clauses X n hds qs → wNmd X.K i Wout D qs cls d σ H →
      wpAny (model X.prog X.w) X.A (handleBy (.ref a) X.env hds) (SP X pins D) X.xe s := by
  obtain ⟨J, nb, up, na, os, ag, fl⟩ := Z
  have okX := J.ok
  have J0 : Inv X pins σ H s := J.landed nb fl.1 up os ag
  have inFr : ∀ {h : Heap} {o : Obj} {vs : Array Value}, h.FunFrames B (X.env :: X.outer) → h.get? a = some o → o.data = .fields vs → a ∉ frs (X.env :: X.outer) := by
    intro h o vs g e z hm
    obtain ⟨_, o2, e2, hn⟩ := g.mem hm
    rw [e] at e2
    cases e2
    exact hn _ z
  obtain ⟨oe, vs, he, hz, hd⟩ := fl.there
  have noFr := inFr fl.2.2.1 he hd
  have hstk : ∀ {z : Env}, z ∈ X.env :: X.outer → ∀ {L : Addr}, z.frame = some L → L ∈ frs (X.env :: X.outer) := fun hz _ hL => List.mem_filterMap.mpr ⟨_, hz, hL⟩
  have noL : a ≠ X.env.locals := fun z => noFr (by rw [z]; exact hstk List.mem_cons_self hf)
  have noF : a ∉ X.fs := fun hm => by
    obtain ⟨e, m1, m2⟩ := List.mem_filterMap.mp hm
    exact noFr (hstk (List.mem_cons_of_mem _ m1) m2)
  intro hds qs K
  induction K with
  | nil =>
    intro w
    obtain ⟨_, _, _, oe2, vs2, T, oT, ts2, he2, hz2, hd2, h1, _⟩ := id fl
    refine wpAny_handleBy_nil ?_
    have last : wpAny (model X.prog X.w) X.A (setFlight (.ref a) X.env.frame) (fun _ t => wpAny (model X.prog X.w) X.A (throw (.ref a) : Sem Flow) (SP X pins D) X.xe t) X.xe s := by
      rw [hf]
      refine HandSPX.setFlight_upZ fl fun h4 hh4 up4 => wpAny_throw (tk _ _ ?_)
      refine ⟨a, B, sI, pins, σ, H, cls, d, rfl, J, nb, up.trans up4, .inr (.inr ?_), na, os, ag, w⟩
      rw [hs]
      exact hh4
    unfold PySem.passOn
    refine wpAny_bind (wpAny_field he2 hd2 h1 ?_)
    have noN : ¬ ((Value.ref T == Value.none) = true) := by simp
    rw [if_neg noN]
    first | exact wpAny_bind (wpAny_pure (wpAny_bind last)) | exact wpAny_bind last
  | @cons x c u s0 ss p1 p2 hs2 qs2 nm su tl ih =>
    rintro ⟨b, hb, w⟩
    have S0 := J0.suite he hd na noL noF
    have LT : PySem.W.Looks (model X.prog X.w) s.heap (typeOf (.ref a)) cls := fun A Q E t k q => wpAny_typeOf_ref (k _ _ he) (by rw [hz.1]; exact q)
    have LM := PySem.W.exm_one (M := model X.prog X.w) J0.kIn LT hb
    have named : ∀ {Q : Value → Shared → Prop} {E : Value → Shared → Prop}, Q c s → wpAny (model X.prog X.w) (X.A.mark (some (.ref a))) (eval (.Name x p1) X.env) Q E s := by
      intro Q E q
      obtain ⟨g1, g2, g3 | ⟨g3, g4, g5⟩⟩ := nm
      · exact ld_glob (X := X.suite a ((a, oe) :: (X.pn ++ pins))) S0 g1 g3 q g2
      · exact ld_blt (X := X.suite a ((a, oe) :: (X.pn ++ pins))) S0 g1 g3 g4 q g5 g2
    refine wpAny_handleBy_cons (codeAny_handlers_test (named (LM.here ?_))) (by intro q; cases q)
    cases b with
    | false =>
      rw [if_neg Bool.false_ne_true] at w
      exact ih w
    | true =>
      rw [if_pos rfl] at w
      refine codeAny_handlers_suite_as (HandSPX.lands_againZ fl fun h4 fl4 up4 => ?_)
      have J4 : Inv X pins σ H { s with heap := h4 } := J.landed nb fl4.1 (up.trans up4) os ag
      obtain ⟨oe4, vs4, he4, hz4, hd4⟩ := fl4.there
      have S4 := J4.suite he4 hd4 na noL noF
      refine store_ok (X := X.suite a ((a, oe4) :: (X.pn ++ pins))) (v := .ref a) S4 hN hi (.inl hl) rfl (fun s5 S5 => ?_) (.inr hl)
      refine wpAny_mono ((su a oe4 cls d (X.pn ++ pins) hz4 ⟨_, hd4⟩).run [] s5 _ H _ S5 (w a na)) (fun f s6 h6 => ?_) (fun _ _ z => z.elim)
      have leave : ∀ {σ6 : St} {H6 : Hp} {Q : Shared → Prop}, Inv (X.suite a ((a, oe4) :: (X.pn ++ pins))) [] σ6 H6 s6 → (∀ s7, Inv X pins (σ6.set i none) H6 s7 → Q s7) →
          wpAny (model X.prog X.w) X.A (do bindName X.env n .none; unbindBehindTheSuite X.env n p2) (fun _ s7 => Q s7) X.xe s6 := fun S6 hq => gone_ok (S6.unsuite okX) hN hi hl hq
      cases f with
      | ret v =>
        obtain ⟨v6, σ6, H6, S6, r6, q6⟩ := h6
        exact leave S6 fun s7 J7 => ⟨_, _, _, J7, r6, q6⟩
      | next =>
        obtain ⟨σ6, H6, S6, q6⟩ := h6
        exact leave S6 fun s7 J7 => ⟨_, _, J7, q6⟩
      | brk =>
        obtain ⟨σ6, H6, S6, q6⟩ := h6
        exact leave S6 fun s7 J7 => ⟨_, _, J7, q6⟩
      | cont =>
        obtain ⟨σ6, H6, S6, q6⟩ := h6
        exact leave S6 fun s7 J7 => ⟨_, _, J7, q6⟩
theorem ps_try_named {body : List Stmt} {h0 : ExceptHandler} {hds : List ExceptHandler} {qs : List (Value × Suite)} {pos : Pos} {tb : WX → TS} (hs : X.stack = X.env :: X.outer) (hf : X.env.frame = some X.env.locals) (hN : X.N.Nodup) (hi : X.N[i]? = some n)
    (hl : X.env.kindOf n = some .local) (tk : Takes X Wout)
    (hb : ∀ (W : WX) (pn : List (Addr × Obj)) (xe : Value → Shared → Prop), Takes (X.tr pn xe) W → PassesOwn (model X.prog X.w) X.A X.env xe → PSs (X.tr pn xe) body (tb W))
    (hc : Clauses X n (h0 :: hds) qs) : PS X (.Try body (h0 :: hds) [] [] pos) (fun D σ H => tb (wNmd X.K i Wout D qs) D σ H) := by
  refine ⟨fun pins s σ H D I h => wpAny_Try_except ?_⟩
  have okX := I.ok
  have hfr : X.A.frames = some (X.env :: X.outer) := okX.frames.trans (congrArg some hs)
  refine wpAny_mono ((hb (wNmd X.K i Wout D qs) (X.pn ++ pins) (fun e t1 => wpAny (model X.prog X.w) X.A (noteFrame e X.env) (fun _ t2 => wpAny (model X.prog X.w) X.A (setFlight e none) (fun _ t3 =>
    wpAny (model X.prog X.w) X.A (handleBy e X.env (h0 :: hds)) (SP X pins D) X.xe t3) X.xe t2) X.xe t1) (fun u s2 z => ?_) PassesOwn.looking).run [] s σ H D (I.toTry _) h) (fun f s1 z => ?_) (fun e s1 z => z)
  · obtain ⟨a, B, sI, pins2, σ2, H2, cls, d, rfl, J2, nb, up, sky, na, os, ag, w⟩ := z
    rw [show (X.tr (X.pn ++ pins) _).stack = X.env :: X.outer from hs] at sky
    show wpAny (model X.prog X.w) X.A (noteFrame (.ref a) X.env) _ _ _
    refine Sky.land Zc.steady hfr hf sky fun h3 fl3 up3 => ?_
    exact clauses_run (s := { s2 with heap := h3 }) hs hf hN hi hl tk ⟨J2.ofTry okX, nb, up.trans up3, na, os, ag, fl3⟩ hc w
  · cases f with
    | ret v =>
      obtain ⟨y, σ2, H2, J2, r, q⟩ := z
      exact ⟨y, σ2, H2, J2.ofTry okX, r, q⟩
    | next =>
      obtain ⟨σ2, H2, J2, q⟩ := z
      exact wpAny_execs_nil ⟨σ2, H2, J2.ofTry okX, q⟩
    | brk =>
      obtain ⟨σ2, H2, J2, q⟩ := z
      exact ⟨σ2, H2, J2.ofTry okX, q⟩
    | cont =>
      obtain ⟨σ2, H2, J2, q⟩ := z
      exact ⟨σ2, H2, J2.ofTry okX, q⟩
end
end L2.EV
set_option Elab.async false
set_option linter.all false
set_option maxRecDepth 100000
set_option maxHeartbeats 4000000
namespace L2.EV
open PySem PySem.Spec PyProof.Rows
/-! ### displays: constants, names, sums of whole numbers; tuples, lists, dicts of such -/
inductive T where
  | v (x : V)
  | sl (i : Nat)
  | op (f : Int → Int → Int) (a b : T)
  | tup (ts : List T)
  | lst (ts : List T)
  | dct (ks : List Key) (ts : List T)
mutual
/-- the names' values put in -/
inductive Val (σ : St) : T → T → Prop
  | v (x : V) : Val σ (.v x) (.v x)
  | sl {i : Nat} {x : V} : σ[i]? = some (some x) → Val σ (.sl i) (.v x)
  | op {f : Int → Int → Int} {a b : T} {i j : Int} : Val σ a (.v (.int i)) → Val σ b (.v (.int j)) → Val σ (.op f a b) (.v (.int (f i j)))
  | tup {ts us : List T} : Vls σ ts us → Val σ (.tup ts) (.tup us)
  | lst {ts us : List T} : Vls σ ts us → Val σ (.lst ts) (.lst us)
  | dct {ks : List Key} {ts us : List T} : Vls σ ts us → Val σ (.dct ks ts) (.dct ks us)
inductive Vls (σ : St) : List T → List T → Prop
  | nil : Vls σ [] []
  | cons {t u : T} {ts us : List T} : Val σ t u → Vls σ ts us → Vls σ (t :: ts) (u :: us)
end
mutual
/-- the value x lies in the heap as t -/
inductive Laid (H : Hp) : V → T → Prop
  | v (x : V) : Laid H x (.v x)
  | tup {a : Addr} {xs : List V} {ts : List T} : H a = some (.tup xs) → Lds H xs ts → Laid H (.ref a) (.tup ts)
  | lst {a : Addr} {xs : List V} {ts : List T} : H a = some (.lst xs) → Lds H xs ts → Laid H (.ref a) (.lst ts)
  | dct {a : Addr} {kvs : List (Key × V)} {ts : List T} : H a = some (.dK kvs) → Lds H (kvs.map (·.2)) ts → Laid H (.ref a) (.dct (kvs.map (·.1)) ts)
inductive Lds (H : Hp) : List V → List T → Prop
  | nil : Lds H [] []
  | cons {x : V} {t : T} {xs : List V} {ts : List T} : Laid H x t → Lds H xs ts → Lds H (x :: xs) (t :: ts)
end
mutual
theorem Laid.same {H H' : Hp} (s : Same H H') : ∀ {x : V} {t : T}, Laid H x t → Laid H' x t
  | _, _, .v x => .v x
  | _, _, .tup h t => .tup (s _ _ h) (Lds.same s t)
  | _, _, .lst h t => .lst (s _ _ h) (Lds.same s t)
  | _, _, .dct h t => .dct (s _ _ h) (Lds.same s t)
theorem Lds.same {H H' : Hp} (s : Same H H') : ∀ {xs : List V} {ts : List T}, Lds H xs ts → Lds H' xs ts
  | _, _, .nil => .nil
  | _, _, .cons h t => .cons (Laid.same s h) (Lds.same s t)
end
theorem Lds.length {H : Hp} : ∀ {xs : List V} {ts : List T}, Lds H xs ts → ts.length = xs.length
  | _, _, .nil => rfl
  | _, _, .cons _ t => congrArg Nat.succ t.length
theorem Lds.append {H : Hp} : ∀ {xs ys : List V} {ts us : List T}, Lds H xs ts → Lds H ys us → Lds H (xs ++ ys) (ts ++ us)
  | _, _, _, _, .nil, h => h
  | _, _, _, _, .cons h t, g => .cons h (t.append g)
theorem Lds.at {H : Hp} : ∀ {xs : List V} {ts : List T} {i : Nat} {x : V}, Lds H xs ts → xs[i]? = some x → ∃ t, ts[i]? = some t ∧ Laid H x t
  | _, _, 0, _, .cons h _, e => by
    cases e
    exact ⟨_, rfl, h⟩
  | _, _, i + 1, _, .cons _ t, e => Lds.at (i := i) t e
theorem Same.rfl' {H : Hp} : Same H H := fun _ _ e => e
theorem same_put {H : Hp} {p : Addr} {o : HO} (h : H p = none) : Same H (upd H p o) := fun b u e => by
  rw [upd_ne (ne_of_none e h)]
  exact e
/-- what is new in H' -/
def nw (H H' : Hp) : Hp := fun b => if (H b).isSome = true then none else H' b
theorem nw_some {H H' : Hp} {b : Addr} {o : HO} (h : nw H H' b = some o) : H b = none ∧ H' b = some o := by
  unfold nw at h
  cases e : H b with
  | none =>
    rw [e] at h
    exact ⟨rfl, h⟩
  | some u =>
    rw [e] at h
    cases h
theorem nw_of {H H' : Hp} {b : Addr} {o : HO} (h : H b = none) (h2 : H' b = some o) : nw H H' b = some o := by
  unfold nw
  rw [h]
  exact h2
theorem nw_old {H H' : Hp} : Same (nw H H') H' := fun _ _ e => (nw_some e).2
theorem nw_right {H H1 H2 : Hp} (s : Same H1 H2) : Same (nw H H1) (nw H H2) := fun b o e => nw_of (nw_some e).1 (s b o (nw_some e).2)
theorem nw_left {H H1 H2 : Hp} (s : Same H H1) : Same (nw H1 H2) (nw H H2) := fun b o e => nw_of (s.free (nw_some e).1) (nw_some e).2
/-- the heap without D -/
def hid (H : Hp) (D : Addr) : Hp := fun b => if b = D then none else H b
theorem hid_some {H : Hp} {D b : Addr} {o : HO} (h : hid H D b = some o) : b ≠ D ∧ H b = some o := by
  unfold hid at h
  split at h
  · cases h
  · next n => exact ⟨n, h⟩
theorem hid_of {H : Hp} {D b : Addr} {o : HO} (n : b ≠ D) (h : H b = some o) : hid H D b = some o := (if_neg n).trans h
theorem hid_old {H : Hp} {D : Addr} : Same (hid H D) H := fun _ _ e => (hid_some e).2
theorem hid_mono {H H' : Hp} {D : Addr} (s : Same H H') : Same (hid H D) (hid H' D) := fun b o e => hid_of (hid_some e).1 (s b o (hid_some e).2)
theorem hid_upd {H : Hp} {D : Addr} {o : HO} : hid (upd H D o) D = hid H D := by
  funext b
  unfold hid
  by_cases e : b = D
  · rw [if_pos e, if_pos e]
  · rw [if_neg e, if_neg e, upd_ne e]
theorem nw_hid {H H' : Hp} {D : Addr} {u : HO} (h : H D = some u) : Same (nw H H') (hid H' D) := fun b o e => hid_of (fun z => by
  have := (nw_some e).1
  rw [z, h] at this
  cases this) (nw_some e).2
/-- a display's reading: new objects, as told; all else stands -/
def tL (t : T) : TE := fun σ H Q => ∃ u, Val σ t u ∧ ∀ x H', Same H H' → Laid (nw H H') x u → Q x H'
def tLs (ts : List T) : TA := fun σ H Q => ∃ us, Vls σ ts us ∧ ∀ xs H', Same H H' → Lds (nw H H') xs us → Q xs H'
section
variable {X : Cx} {pos : Pos}
theorem pl_int {i : Int} {k : Nat} : PE X (.Constant (.int i) k pos) (tL (.v (.int i))) := PE.imp pe_int fun σ H Q ⟨_, h, q⟩ => by
  cases h
  exact q _ _ Same.rfl' (.v _)
theorem pl_str {x : Str} {k : Nat} : PE X (.Constant (.str x) k pos) (tL (.v (.str x))) := PE.imp pe_str fun σ H Q ⟨_, h, q⟩ => by
  cases h
  exact q _ _ Same.rfl' (.v _)
theorem pl_bl {b : Bool} {k : Nat} : PE X (.Constant (.bool b) k pos) (tL (.v (.bl b))) := PE.imp pe_bl fun σ H Q ⟨_, h, q⟩ => by
  cases h
  exact q _ _ Same.rfl' (.v _)
theorem pl_non {k : Nat} : PE X (.Constant .none k pos) (tL (.v .non)) := PE.imp pe_non fun σ H Q ⟨_, h, q⟩ => by
  cases h
  exact q _ _ Same.rfl' (.v _)
theorem pl_v (i : Nat) {x : Str} (hN : X.N[i]? = some x := by rfl) (hv : Vis X.env.scope x := by first | exact Or.inl rfl | exact Or.inr (Or.inl rfl) | exact Or.inr (Or.inr rfl)) (hd : (x == ("__debug__" : Str)) = false := by decide)
    (hcd : (x == ("__classdict__" : Str)) = false := by decide) : PE X (.Name x pos) (tL (.sl i)) := PE.imp (pv i hN hv hd hcd) fun σ H Q ⟨_, h, q⟩ => by
  cases h with
  | sl e => exact ⟨_, e, q _ _ Same.rfl' (.v _)⟩
theorem pl_add {a b : Expr} {ta tb : T} (ha : PE X a (tL ta)) (hb : PE X b (tL tb)) : PE X (.BinOp a .Add b pos) (tL (.op (· + ·) ta tb)) := PE.imp (pe_op op_add ha hb) fun σ H Q ⟨_, h, q⟩ => by
  cases h with
  | op h1 h2 =>
    refine ⟨_, h1, fun x H1 s1 l1 => ⟨_, h2, fun y H2 s2 l2 => ?_⟩⟩
    cases l1
    cases l2
    exact ⟨_, _, rfl, rfl, q _ _ (s1.trans s2) (.v _)⟩
theorem pl_sub {a b : Expr} {ta tb : T} (ha : PE X a (tL ta)) (hb : PE X b (tL tb)) : PE X (.BinOp a .Sub b pos) (tL (.op (· - ·) ta tb)) := PE.imp (pe_op op_sub ha hb) fun σ H Q ⟨_, h, q⟩ => by
  cases h with
  | op h1 h2 =>
    refine ⟨_, h1, fun x H1 s1 l1 => ⟨_, h2, fun y H2 s2 l2 => ?_⟩⟩
    cases l1
    cases l2
    exact ⟨_, _, rfl, rfl, q _ _ (s1.trans s2) (.v _)⟩
theorem pl_neg {i : Int} {k : Nat} {p : Pos} : PE X (.UnaryOp .USub (.Constant (.int i) k p) pos) (tL (.v (.int (-i)))) := PE.imp (pe_un un_neg pe_int) fun σ H Q ⟨_, h, q⟩ => by
  cases h
  exact ⟨_, rfl, q _ _ Same.rfl' (.v _)⟩
theorem pl_pow {i j : Int} {k l : Nat} {p r : Pos} (h0 : 0 ≤ j := by decide) (h1 : (Builtin.Int.intBits i : Int) * j ≤ 2 ^ 27 := by decide +kernel) : PE X (.BinOp (.Constant (.int i) k p) .Pow (.Constant (.int j) l r) pos) (tL (.v (.int (i ^ j.toNat)))) :=
  PE.imp (pe_op (r := rI (fun i j => 0 ≤ j ∧ (Builtin.Int.intBits i : Int) * j ≤ 2 ^ 27) fun i j => .int (i ^ j.toNat)) (opI fun _ _ _ _ _ _ _ hc q => pow_int hc.1 hc.2 q) pe_int pe_int) fun σ H Q ⟨_, h, q⟩ => by
    cases h
    exact ⟨_, _, rfl, rfl, ⟨h0, h1⟩, q _ _ Same.rfl' (.v _)⟩
theorem pla_nil : PA X [] (tLs []) := PA.imp pa_nil fun σ H Q ⟨_, h, q⟩ => by
  cases h
  exact q [] H Same.rfl' .nil
theorem pla_cons {e : Expr} {es : List Expr} {t : T} {ts : List T} (he : PE X e (tL t)) (hr : PA X es (tLs ts)) (hs : starEach (e :: es) X.env = (false, eval e X.env) :: starEach es X.env := by rfl) : PA X (e :: es) (tLs (t :: ts)) :=
  PA.imp (pa_cons he hr hs) fun σ H Q ⟨_, h, q⟩ => by
    cases h with
    | cons h1 h2 => exact ⟨_, h1, fun x H1 s1 l1 => ⟨_, h2, fun xs H2 s2 l2 => q _ _ (s1.trans s2) (.cons (l1.same (nw_right s2)) (l2.same (nw_left s1)))⟩⟩
theorem Vls.length {σ : St} : ∀ {ts us : List T}, Vls σ ts us → us.length = ts.length
  | _, _, .nil => rfl
  | _, _, .cons _ t => congrArg Nat.succ (Vls.length t)
theorem line_big {n : Nat} (h : n ≤ 1000) : n ≤ sizeLine := by
  rw [sizeLine_eq]
  omega
theorem pl_tup {es : List Expr} {ts : List T} {c : Nat} (h : PA X es (tLs ts)) (hz : ts.length ≤ 1000 := by decide) : PE X (.Tuple es c pos) (tL (.tup ts)) := PE.imp (pe_tup h) fun σ H Q ⟨_, g, q⟩ => by
  cases g with
  | tup g =>
    refine ⟨_, g, fun xs H1 s1 l => ⟨line_big (by rw [← l.length, g.length]; exact hz), fun p hp => ?_⟩⟩
    have s2 := same_put (o := .tup xs) hp
    exact q _ _ (s1.trans s2) (.tup (nw_of (s1.free hp) upd_same) (l.same (nw_right s2)))
theorem pl_lst {es : List Expr} {ts : List T} (h : PA X es (tLs ts)) (hz : ts.length ≤ 1000 := by decide) : PE X (.List es pos) (tL (.lst ts)) := PE.imp (pe_lst h) fun σ H Q ⟨_, g, q⟩ => by
  cases g with
  | lst g =>
    refine ⟨_, g, fun xs H1 s1 l => ⟨line_big (by rw [← l.length, g.length]; exact hz), fun p hp => ?_⟩⟩
    have s2 := same_put (o := .lst xs) hp
    exact q _ _ (s1.trans s2) (.lst (nw_of (s1.free hp) upd_same) (l.same (nw_right s2)))
theorem pl_d0 : PE X (.Dict [] [] pos) (tL (.dct [] [])) := PE.imp pe_dnewK fun σ H Q ⟨_, g, q⟩ => by
  cases g with
  | dct g =>
    cases g
    exact fun p hp => q _ _ (same_put hp) (Laid.dct (kvs := []) (nw_of hp upd_same) .nil)
theorem pl_d1 {k : Str} {l : Nat} {p : Pos} {e : Expr} {x : V} (he : PE X e (tL (.v x))) : PE X (.Dict [some (.Constant (.str k) l p)] [e] pos) (tL (.dct [.inr k] [.v x])) :=
  PE.imp (pe_disp (pps_cons pe_str he pps_nil) rfl rfl (fun z => by cases z) (by show 1 ≤ 15; decide)) fun σ H Q ⟨_, g, q⟩ => by
    cases g with
    | dct g =>
      cases g with
      | cons g1 g2 =>
        cases g1
        cases g2
        refine fun p hp => ⟨_, .v x, fun y H2 s2 l => ?_⟩
        cases l
        refine ⟨s2 _ _ upd_same, [(.inr k, x)], rfl, (by show 1 ≤ 15; decide), q _ _ (fun b o e => ?_) (Laid.dct (kvs := [(.inr k, x)]) (nw_of hp upd_same) (.cons (.v x) .nil))⟩
        have ne := ne_of_none e hp
        rw [upd_ne ne]
        exact s2 _ _ ((upd_ne ne).trans e)
end
end L2.EV
set_option Elab.async false
set_option linter.all false
set_option maxRecDepth 100000
set_option maxHeartbeats 4000000
namespace L2.K57
open PySem PySem.Spec PyProof.Rows L2.EV L2
def tyT : T → Option String
  | .v .non => some "NoneType"
  | .v (.bl _) => some "bool"
  | .v (.int _) => some "int"
  | .v (.str _) => some "str"
  | .tup _ => some "tuple"
  | .lst _ => some "list"
  | .dct _ _ => some "dict"
  | _ => none
theorem ty_T {K : PySem.W.Frag} {H : Hp} {x : V} {t : T} {n : String} (h : Laid H x t) (e : tyT t = some n) : TyX K H x (.type n) := by
  cases h with
  | v x =>
    cases x <;> first | cases e | skip
    · exact .base .non
    · exact .base (.bl _)
    · exact .base (.int _)
    · exact .base (.str _)
  | tup h l =>
    cases e
    exact .base (.tup h)
  | lst h l =>
    cases e
    exact .base (.lst h)
  | dct h l =>
    cases e
    exact .base (.dK h)
def isT (n m : String) : Bool := (kitB n m).getD false
theorem kit_T {K : PySem.W.Frag} {t : T} {n : String} (e : tyT t = some n) (m : String) (hm : m ∈ (["bool", "int", "str", "tuple", "list", "dict"] : List String)) : PySem.W.kitOne K (.type n) (.type m) = some (isT n m) := by
  have all : (["NoneType", "bool", "int", "str", "tuple", "list", "dict"] : List String).all (fun n => (["bool", "int", "str", "tuple", "list", "dict"] : List String).all fun m => (kitB n m).isSome) = true := by decide +kernel
  have hn : n ∈ (["NoneType", "bool", "int", "str", "tuple", "list", "dict"] : List String) := by
    unfold tyT at e
    split at e <;> first | cases e | skip
    all_goals simp
  have h := List.all_eq_true.mp (List.all_eq_true.mp all n hn) m hm
  obtain ⟨b, hb⟩ := Option.isSome_iff_exists.mp h
  refine kit_ty (by unfold isT; rw [hb]; rfl)
/-- one step of a list of answers -/
theorem ans_step {H1 H' : Hp} {D : Addr} {rs : List Bool} {i : Nat} {r : Bool} (hD : H1 D = none) (sA : Same H1 H') (gA : H' D = some (.lst ((rs.take i).map V.bl))) (hr : rs[i]? = some r) (hn : rs.length ≤ 900) :
    ∃ acc, H' D = some (.lst acc) ∧ acc.length < sizeLine ∧ (Same H1 (upd H' D (.lst (acc ++ [V.bl r]))) ∧ (upd H' D (.lst (acc ++ [V.bl r]))) D = some (.lst ((rs.take (i + 1)).map V.bl))) := by
  refine ⟨_, gA, ?_, fun c o e => ?_, ?_⟩
  · rw [List.length_map]
    exact small1000 (Nat.le_trans (List.length_take_le' _ _) (by omega))
  · rw [upd_ne (ne_of_none e hD)]
    exact sA _ _ e
  · rw [upd_same, List.take_succ, hr, List.map_append]
    rfl
theorem at_of_len {α β : Type} {xs : List α} {rs : List β} (h : rs.length = xs.length) {i : Nat} {x : α} (hx : xs[i]? = some x) : ∃ r, rs[i]? = some r := by
  have hi : i < xs.length := (List.getElem?_eq_some_iff.mp hx).1
  exact ⟨_, List.getElem?_eq_getElem (by omega)⟩
/-! ### expressions -/
inductive Ex where
  | wd (s : Str)
  | pl
  | ag (e : Ex)
  | rw (es : List Ex)
mutual
def exT : Ex → T
  | .wd s => .v (.str s)
  | .pl => .tup [.v (.str "place")]
  | .ag e => .tup [.v (.str "again"), exT e]
  | .rw es => .tup [.v (.str "row"), .lst (exTs es)]
def exTs : List Ex → List T
  | [] => []
  | e :: es => exT e :: exTs es
end
theorem exTs_len : ∀ es : List Ex, (exTs es).length = es.length
  | [] => rfl
  | e :: es => congrArg Nat.succ (exTs_len es)
theorem exTs_at : ∀ {es : List Ex} {i : Nat} {e : Ex}, es[i]? = some e → (exTs es)[i]? = some (exT e)
  | [], _, _, h => by cases h
  | e :: es, 0, f, h => by
    cases h
    rfl
  | e :: es, i + 1, f, h => exTs_at (es := es) (i := i) h
theorem exTs_map : ∀ es : List Ex, exTs es = es.map exT
  | [] => rfl
  | e :: es => congrArg (exT e :: ·) (exTs_map es)
abbrev ExAt (H : Hp) (v : V) (e : Ex) : Prop := Laid H v (exT e)
mutual
def dep : Ex → Nat
  | .wd _ => 1
  | .pl => 1
  | .ag e => dep e + 1
  | .rw es => deps es + 1
def deps : List Ex → Nat
  | [] => 0
  | e :: es => max (dep e) (deps es)
end
theorem dep_pos : ∀ e : Ex, 1 ≤ dep e
  | .wd _ => by rw [dep]; exact Nat.le_refl _
  | .pl => by rw [dep]; exact Nat.le_refl _
  | .ag e => by rw [dep]; exact Nat.le_add_left _ _
  | .rw es => by rw [dep]; exact Nat.le_add_left _ _
theorem deps_at : ∀ {es : List Ex} {e : Ex}, e ∈ es → dep e ≤ deps es
  | f :: es, e, h => by
    rw [deps]
    rcases List.mem_cons.mp h with rfl | h
    · exact Nat.le_max_left _ _
    · exact Nat.le_trans (deps_at h) (Nat.le_max_right _ _)
theorem ex_wd {H : Hp} {v : V} {s : Str} (h : ExAt H v (.wd s)) : v = .str s := by
  cases h
  rfl
theorem ex_pl {H : Hp} {v : V} (h : ExAt H v .pl) : ∃ a, v = .ref a ∧ H a = some (.tup [.str "place"]) := by
  unfold ExAt exT at h
  cases h with
  | tup h l =>
    cases l with
    | cons l1 l2 =>
      cases l1
      cases l2
      exact ⟨_, rfl, h⟩
theorem ex_ag {H : Hp} {v : V} {e : Ex} (h : ExAt H v (.ag e)) : ∃ a u, v = .ref a ∧ H a = some (.tup [.str "again", u]) ∧ ExAt H u e := by
  unfold ExAt exT at h
  cases h with
  | tup h l =>
    cases l with
    | cons l1 l2 =>
      cases l1
      cases l2 with
      | cons l2 l3 =>
        cases l3
        exact ⟨_, _, rfl, h, l2⟩
theorem ex_rw {H : Hp} {v : V} {es : List Ex} (h : ExAt H v (.rw es)) : ∃ a l us, v = .ref a ∧ H a = some (.tup [.str "row", .ref l]) ∧ H l = some (.lst us) ∧ Lds H us (exTs es) := by
  unfold ExAt exT at h
  cases h with
  | tup h l =>
    cases l with
    | cons l1 l2 =>
      cases l1
      cases l2 with
      | cons l2 l3 =>
        cases l3
        cases l2 with
        | lst g l2 => exact ⟨_, _, _, rfl, h, g, l2⟩
theorem lds_ex {H : Hp} {us : List V} {es : List Ex} {i : Nat} {u : V} (h : Lds H us (exTs es)) (hu : us[i]? = some u) : ∃ e, es[i]? = some e ∧ ExAt H u e := by
  obtain ⟨t, ht, l⟩ := h.at hu
  rw [exTs_map, List.getElem?_map] at ht
  cases e : es[i]? with
  | none => rw [e] at ht; cases ht
  | some f =>
    rw [e] at ht
    cases ht
    exact ⟨f, rfl, l⟩
theorem lds_exlen {H : Hp} {us : List V} {es : List Ex} (h : Lds H us (exTs es)) : us.length = es.length := by
  rw [← h.length, exTs_len]
theorem at0 (x : V) (xs : List V) : atI (x :: xs) 0 = some x := atI_nat (j := 0) rfl
theorem at1 (x y : V) (xs : List V) : atI (x :: y :: xs) 1 = some y := atI_nat (j := 1) rfl
end L2.K57
set_option Elab.async false
set_option linter.all false
set_option maxRecDepth 100000
set_option maxHeartbeats 4000000
namespace L2.K57
open PySem PySem.Spec PyProof.Rows L2.EV L2
/-! ### the form of an expression -/
inductive Fm (b : Bool) : Nat → T → Bool → Prop
  | word {n : Nat} {s : Str} : s.length ≤ sizeLine → Fm b (n + 1) (.v (.str s)) (wordB s)
  | non {n : Nat} : Fm b (n + 1) (.v .non) false
  | bl {n : Nat} {c : Bool} : Fm b (n + 1) (.v (.bl c)) false
  | int {n : Nat} {i : Int} : Fm b (n + 1) (.v (.int i)) false
  | lst {n : Nat} {ts : List T} : Fm b (n + 1) (.lst ts) false
  | len {n : Nat} {ts : List T} : ts.length ≠ 1 → ts.length ≠ 2 → Fm b (n + 1) (.tup ts) false
  | one {n : Nat} {z : Str} : Fm b (n + 1) (.tup [.v (.str z)]) (b && decide (z = "place"))
  | again {n : Nat} {t : T} {r : Bool} : Fm b n t r → Fm b (n + 1) (.tup [.v (.str "again"), t]) r
  | row {n : Nat} {ts : List T} {rs : List Bool} : ts.length ≤ 900 → rs.length = ts.length → (∀ (i : Nat) (t : T) (r : Bool), ts[i]? = some t → rs[i]? = some r → Fm b n t r) → Fm b (n + 1) (.tup [.v (.str "row"), .lst ts]) (rs.all id)
  | rowN {n : Nat} {ts : List T} : Fm b (n + 1) (.tup [.v (.str "row"), .tup ts]) false
  | two {n : Nat} {z : Str} {t : T} : z ≠ "again" → z ≠ "row" → Fm b (n + 1) (.tup [.v (.str z), t]) false
abbrev sHF : Stmt := top 7
abbrev pHF : List Str := ["value", "placed"]
abbrev nHF : List Str := ["value", "placed", "part"]
theorem scHF : FnScope nHF pHF (defScope sHF) := ⟨rfl, rfl, rfl, by decide +kernel, rfl, by decide +kernel, by decide +kernel⟩
def spHF (n : Nat) : Sp := fun vs H Q _ => ∃ v b t r, vs = [v, .bl b] ∧ Laid H v t ∧ Fm b n t r ∧ ∀ H', Same H H' → Q (.bl r) H'
section
variable {P : Program} {w : World} {K : PySem.W.Frag} {mg : Str → Option Value} {base : Heap} {f : Addr} {fd : FuncData}
theorem ok_hf_step {n : Nat} (F : FnP K "has_expression_form" sHF f fd) (G : Got P w K mg base (n + 1) "has_expression_form" pHF (spHF n)) (GT : Got P w K mg base 1 "is_tuple_of" ["value", "length"] (spTof K)) (GW : Got P w K mg base 1 "has_word_form" ["value"] (spWF K)) (mIs : mg "isinstance" = none) (mS : mg "str" = none) (mLi : mg "list" = none) (mA : mg "all" = none) :
    FnOk P w K mg base CX0 (n + 2) f fd pHF (spHF (n + 1)) := by
  refine F.ok scHF (fun vs H Q E h => ?_) (fun cdv A outer s H vs Q E hr h => ?_)
  · obtain ⟨v, b, t, r, rfl, _⟩ := h
    rfl
  · obtain ⟨v, b, t, r, rfl, hv, hf, q⟩ := h
    have k1 : 1 ≤ n + 1 := Nat.le_add_left _ _
    refine ⟨_, PSs.nox (pss_cons (ps_if (pt_val (pe_callB call_isi (by rfl) mIs (by decide +kernel) (pa_cons (pv 0) (pa_cons (pe_bltn (v := .ty "str") (u := .type "str") (by rfl) mS (by decide +kernel) rfl) pa_nil)))) (pss_one (ps_ret (pe_got GW hr (pa_cons (pv 0) pa_nil) (by rfl) k1))) pss_nil)
      (pss_cons (ps_if (pt_val (pe_got GT hr (pa_cons (pv 0) (pa_cons pe_int pa_nil)) (by rfl) k1)) (pss_one (ps_ret (pe_and (pv 1) (pe_one (pe_cmpR op_eq (pe_ix ix_tup (pv 0) pe_int (fun _ _ => rfl)) pe_str (nomark _)))))) pss_nil)
      (pss_cons (ps_if (pt_not (pt_val (pe_got GT hr (pa_cons (pv 0) (pa_cons pe_int pa_nil)) (by rfl) k1))) (pss_one (ps_ret pe_bl)) pss_nil)
      (pss_cons (ps_if (pt_cmpR op_eq (pe_ix ix_tup (pv 0) pe_int (fun _ _ => rfl)) pe_str (nomark _)) (pss_one (ps_ret (pe_got G hr (pa_cons (pe_ix ix_tup (pv 0) pe_int (fun _ _ => rfl)) (pa_cons (pv 1) pa_nil)) (by rfl) (Nat.le_refl _)))) pss_nil)
      (pss_cons (ps_if (PW.pt (pw_or (pt_cmpR op_ne (pe_ix ix_tup (pv 0) pe_int (fun _ _ => rfl)) pe_str (nomark _)) (pw_or1 (pt_not (pt_val (pe_callB call_isi (by rfl) mIs (by decide +kernel) (pa_cons (pe_ix ix_tup (pv 0) pe_int (fun _ _ => rfl)) (pa_cons (pe_bltn (v := .ty "list") (u := .type "list") (by rfl) mLi (by decide +kernel) rfl) pa_nil)))))))) (pss_one (ps_ret pe_bl)) pss_nil)
      (pss_one (ps_ret (pe_callB (cr_all rfl) (by rfl) mA (by decide +kernel) (pa_cons
        (pe_lc (own := [("part", 2)]) (g := gName 2) (tt := tYes) (by rfl) scHF.nd (pi_list (pe_ix ix_tup (pv 0) pe_int (fun _ _ => rfl))) (blkOk_by (own := [("part", 2)]) (N := nHF) (sc := defScope sHF) (by decide +kernel))
          (fun _ _ _ _ _ => pg_name (i := 2) scHF.nd rfl (Or.inl rfl)) (fun _ _ _ _ _ => pts_nil) (fun _ _ _ _ _ => pe_got G hr (pa_cons (pv 2) (pa_cons (pv 1) pa_nil)) (by rfl) (Nat.le_refl _))) pa_nil))))))))), ?_⟩
    have rf : Same H H := fun _ _ e => e
    have isS : kitB "str" "str" = some true := by decide +kernel
    cases hf with
    | @word _ s hs =>
      cases hv
      refine ⟨_, rfl, .str s, .ty "str", _, _, true, rfl, .ty _, .base (.str s), kit_ty isS, _, rfl, iteT ?_⟩
      exact ⟨_, rfl, .str s, rfl, .inl ⟨s, rfl, hs, q H rf⟩⟩
    | non =>
      cases hv
      refine ⟨_, rfl, .non, .ty "str", _, _, false, rfl, .ty _, (.base .non), kit_ty (by decide +kernel), _, rfl, iteF ?_⟩
      refine ⟨_, rfl, .non, 1, rfl, .inr ⟨_, (.base .non), kit_ty (by decide +kernel), _, rfl, iteF ?_⟩⟩
      exact ⟨_, rfl, .non, 2, rfl, .inr ⟨_, (.base .non), kit_ty (by decide +kernel), _, rfl, iteT (q H rf)⟩⟩
    | @bl _ c =>
      cases hv
      refine ⟨_, rfl, .bl c, .ty "str", _, _, false, rfl, .ty _, (.base (.bl c)), kit_ty (by decide +kernel), _, rfl, iteF ?_⟩
      refine ⟨_, rfl, .bl c, 1, rfl, .inr ⟨_, (.base (.bl c)), kit_ty (by decide +kernel), _, rfl, iteF ?_⟩⟩
      exact ⟨_, rfl, .bl c, 2, rfl, .inr ⟨_, (.base (.bl c)), kit_ty (by decide +kernel), _, rfl, iteT (q H rf)⟩⟩
    | @int _ i =>
      cases hv
      refine ⟨_, rfl, .int i, .ty "str", _, _, false, rfl, .ty _, (.base (.int i)), kit_ty (by decide +kernel), _, rfl, iteF ?_⟩
      refine ⟨_, rfl, .int i, 1, rfl, .inr ⟨_, (.base (.int i)), kit_ty (by decide +kernel), _, rfl, iteF ?_⟩⟩
      exact ⟨_, rfl, .int i, 2, rfl, .inr ⟨_, (.base (.int i)), kit_ty (by decide +kernel), _, rfl, iteT (q H rf)⟩⟩
    | lst =>
      cases hv with
      | @lst a xs _ ha _ =>
        refine ⟨_, rfl, .ref a, .ty "str", _, _, false, rfl, .ty _, (.base (.lst ha)), kit_ty (by decide +kernel), _, rfl, iteF ?_⟩
        refine ⟨_, rfl, .ref a, 1, rfl, .inr ⟨_, (.base (.lst ha)), kit_ty (by decide +kernel), _, rfl, iteF ?_⟩⟩
        exact ⟨_, rfl, .ref a, 2, rfl, .inr ⟨_, (.base (.lst ha)), kit_ty (by decide +kernel), _, rfl, iteT (q H rf)⟩⟩
    | @len _ ts h1 h2 =>
      cases hv with
      | @tup a xs _ ha hl =>
        have e := hl.length
        refine ⟨_, rfl, .ref a, .ty "str", _, _, false, rfl, .ty _, .base (.tup ha), kit_ty (by decide +kernel), _, rfl, iteF ?_⟩
        refine ⟨_, rfl, .ref a, 1, rfl, .inl ⟨a, _, rfl, ha, ?_⟩⟩
        rw [decide_eq_false (by omega)]
        refine ⟨_, rfl, iteF ⟨_, rfl, .ref a, 2, rfl, .inl ⟨a, xs, rfl, ha, ?_⟩⟩⟩
        rw [decide_eq_false (by omega)]
        exact ⟨_, rfl, iteT (q H rf)⟩
    | @one _ z =>
      cases hv with
      | @tup a xs _ ha hl =>
        cases hl with
        | cons l1 l2 =>
          cases l1
          cases l2
          refine ⟨_, rfl, .ref a, .ty "str", _, _, false, rfl, .ty _, .base (.tup ha), kit_ty (by decide +kernel), _, rfl, iteF ?_⟩
          refine ⟨_, rfl, .ref a, 1, rfl, .inl ⟨a, _, rfl, ha, ?_⟩⟩
          refine ⟨_, rfl, iteT ?_⟩
          cases b with
          | false => exact ⟨_, rfl, _, rfl, iteF (q H rf)⟩
          | true =>
            refine ⟨_, rfl, _, rfl, iteT ?_⟩
            refine ⟨_, rfl, a, _, _, .str z, rfl, rfl, SqT.of ha, at0 _ _, rfl, ?_⟩
            have e : decide (V.str z = V.str "place") = decide (z = "place") := by
              by_cases h : z = ("place" : Str)
              · rw [decide_eq_true h, decide_eq_true (by rw [h])]
              · rw [decide_eq_false h, decide_eq_false (fun k => h (by injection k))]
            rw [e]
            exact q H rf
    | @again _ t r' hf' =>
      cases hv with
      | @tup a xs _ ha hl =>
        cases hl with
        | @cons x1 _ _ _ l1 l2 =>
          cases l1
          cases l2 with
          | @cons u _ _ _ l2 l3 =>
            cases l3
            refine ⟨_, rfl, .ref a, .ty "str", _, _, false, rfl, .ty _, .base (.tup ha), kit_ty (by decide +kernel), _, rfl, iteF ?_⟩
            refine ⟨_, rfl, .ref a, 1, rfl, .inl ⟨a, _, rfl, ha, _, rfl, iteF ?_⟩⟩
            refine ⟨_, rfl, .ref a, 2, rfl, .inl ⟨a, _, rfl, ha, _, rfl, iteF ?_⟩⟩
            refine ⟨_, rfl, a, _, _, .str "again", rfl, rfl, SqT.of ha, at0 _ _, rfl, ?_⟩
            rw [decide_eq_true rfl]
            refine ⟨_, rfl, iteT ?_⟩
            exact ⟨_, rfl, a, _, _, u, rfl, rfl, SqT.of ha, at1 _ _ _, _, rfl, u, b, t, r, rfl, l2, hf', q⟩
    | @row _ ts rs hts hrs hi =>
      cases hv with
      | @tup a xs _ ha hl =>
        cases hl with
        | @cons x1 _ _ _ l1 l2 =>
          cases l1
          cases l2 with
          | @cons u _ _ _ l2 l3 =>
            cases l3
            cases l2 with
            | @lst c us _ hc lc =>
              have lus := lc.length
              refine ⟨_, rfl, .ref a, .ty "str", _, _, false, rfl, .ty _, .base (.tup ha), kit_ty (by decide +kernel), _, rfl, iteF ?_⟩
              refine ⟨_, rfl, .ref a, 1, rfl, .inl ⟨a, _, rfl, ha, _, rfl, iteF ?_⟩⟩
              refine ⟨_, rfl, .ref a, 2, rfl, .inl ⟨a, _, rfl, ha, _, rfl, iteF ?_⟩⟩
              refine ⟨_, rfl, a, _, _, .str "row", rfl, rfl, SqT.of ha, at0 _ _, rfl, ?_⟩
              rw [decide_eq_false (by decide)]
              refine ⟨_, rfl, iteF ⟨_, rfl, a, _, _, .str "row", rfl, rfl, SqT.of ha, at0 _ _, rfl, _, rfl, ?_⟩⟩
              rw [decide_eq_true rfl]
              refine iteF ⟨_, rfl, a, _, _, .ref c, rfl, rfl, SqT.of ha, at1 _ _ _, .ref c, .ty "list", _, _, true, rfl, .ty _, .base (.lst hc), kit_ty (by decide +kernel), _, rfl, iteF ?_⟩
              refine ⟨_, rfl, a, _, _, .ref c, rfl, rfl, SqT.of ha, at1 _ _ _, c, rfl, ⟨_, SqL.of hc⟩, fun D hD => ?_⟩
              refine lc_list (K := K) (a := c) (xs := us) (fun i H' => Same H H' ∧ H' D = some (.lst ((rs.take i).map V.bl))) ⟨same_upd hD, upd_same⟩ (fun i H' _ ⟨sA, _⟩ => SqL.of (sA _ _ hc)) ?_ ?_
              · rintro i x H' hx ⟨sA, gA⟩
                obtain ⟨t, ht, lt⟩ := lc.at hx
                obtain ⟨r', hr'⟩ := at_of_len hrs ht
                refine ⟨rfl, ?_⟩
                dsimp only [tYes]
                rw [if_pos rfl]
                refine ⟨_, rfl, _, rfl, x, b, t, r', rfl, lt.same sA, hi i t r' ht hr', fun H2 s2 => ?_⟩
                exact ans_step hD (sA.trans s2) (s2 _ _ gA) hr' (by omega)
              · rintro H2 ⟨sA, gA⟩
                have e : us.length = rs.length := by omega
                rw [e, List.take_length] at gA
                exact ⟨D, rs, rfl, SqL.of gA, q _ sA⟩
    | @rowN _ ts =>
      cases hv with
      | @tup a xs _ ha hl =>
        cases hl with
        | @cons x1 _ _ _ l1 l2 =>
          cases l1
          cases l2 with
          | @cons u _ _ _ l2 l3 =>
            cases l3
            cases l2 with
            | @tup c us _ hc lc =>
              refine ⟨_, rfl, .ref a, .ty "str", _, _, false, rfl, .ty _, .base (.tup ha), kit_ty (by decide +kernel), _, rfl, iteF ?_⟩
              refine ⟨_, rfl, .ref a, 1, rfl, .inl ⟨a, _, rfl, ha, _, rfl, iteF ?_⟩⟩
              refine ⟨_, rfl, .ref a, 2, rfl, .inl ⟨a, _, rfl, ha, _, rfl, iteF ?_⟩⟩
              refine ⟨_, rfl, a, _, _, .str "row", rfl, rfl, SqT.of ha, at0 _ _, rfl, ?_⟩
              rw [decide_eq_false (by decide)]
              refine ⟨_, rfl, iteF ⟨_, rfl, a, _, _, .str "row", rfl, rfl, SqT.of ha, at0 _ _, rfl, _, rfl, ?_⟩⟩
              rw [decide_eq_true rfl]
              exact iteF ⟨_, rfl, a, _, _, .ref c, rfl, rfl, SqT.of ha, at1 _ _ _, .ref c, .ty "list", _, _, false, rfl, .ty _, .base (.tup hc), kit_ty (by decide +kernel), _, rfl, iteT (q H rf)⟩
    | @two _ z t z1 z2 =>
      cases hv with
      | @tup a xs _ ha hl =>
        cases hl with
        | @cons x1 _ _ _ l1 l2 =>
          cases l1
          cases l2 with
          | @cons u _ _ _ l2 l3 =>
            cases l3
            refine ⟨_, rfl, .ref a, .ty "str", _, _, false, rfl, .ty _, .base (.tup ha), kit_ty (by decide +kernel), _, rfl, iteF ?_⟩
            refine ⟨_, rfl, .ref a, 1, rfl, .inl ⟨a, _, rfl, ha, _, rfl, iteF ?_⟩⟩
            refine ⟨_, rfl, .ref a, 2, rfl, .inl ⟨a, _, rfl, ha, _, rfl, iteF ?_⟩⟩
            refine ⟨_, rfl, a, _, _, .str z, rfl, rfl, SqT.of ha, at0 _ _, rfl, ?_⟩
            rw [decide_eq_false (fun k => z1 (by injection k))]
            refine ⟨_, rfl, iteF ⟨_, rfl, a, _, _, .str z, rfl, rfl, SqT.of ha, at0 _ _, rfl, _, rfl, ?_⟩⟩
            rw [decide_eq_false (fun k => z2 (by injection k))]
            exact iteT (q H rf)
end
end L2.K57
set_option Elab.async false
set_option linter.all false
set_option maxRecDepth 100000
set_option maxHeartbeats 4000000
namespace L2.K57
open PySem PySem.Spec PyProof.Rows L2.EV L2
/-! ### expressions: what they hold -/
mutual
def wf : Ex → Prop
  | .wd s => Word s
  | .pl => True
  | .ag e => wf e
  | .rw es => es.length ≤ 100 ∧ wfs es
def wfs : List Ex → Prop
  | [] => True
  | e :: es => wf e ∧ wfs es
end
theorem wfs_at : ∀ {es : List Ex} {e : Ex}, wfs es → e ∈ es → wf e
  | f :: es, e, h, m => by
    unfold wfs at h
    rcases List.mem_cons.mp m with rfl | m
    · exact h.1
    · exact wfs_at h.2 m
mutual
def hasPl : Ex → Bool
  | .wd _ => false
  | .pl => true
  | .ag e => hasPl e
  | .rw es => anyPl es
def anyPl : List Ex → Bool
  | [] => false
  | e :: es => hasPl e || anyPl es
end
theorem anyPl_eq : ∀ es : List Ex, anyPl es = (es.map hasPl).any id
  | [] => rfl
  | e :: es => by
    rw [anyPl, anyPl_eq es]
    rfl
mutual
def lvs : Ex → List Str
  | .wd s => [s]
  | .pl => []
  | .ag e => lvs e
  | .rw es => lvss es
def lvss : List Ex → List Str
  | [] => []
  | e :: es => lvs e ++ lvss es
end
theorem lvss_flat : ∀ es : List Ex, lvss es = (es.map lvs).flatten
  | [] => rfl
  | e :: es => by
    rw [lvss, lvss_flat es]
    rfl
mutual
def nst : Ex → Nat
  | .wd _ => 0
  | .pl => 0
  | .ag e => 1 + nst e
  | .rw es => nsts es
def nsts : List Ex → Nat
  | [] => 0
  | e :: es => max (nst e) (nsts es)
end
theorem word_line {s : Str} (h : Word s) : s.length ≤ sizeLine := Nat.le_of_lt (small1000 (by have := h.1.2; omega))
theorem any_not : ∀ es : List Ex, (!(es.map hasPl).any id) = (es.map fun e => !hasPl e).all id
  | [] => rfl
  | e :: es => by
    rw [List.map_cons, List.map_cons, List.any_cons, List.all_cons, ← any_not es, Bool.not_or]
    rfl
mutual
theorem fm_ex {b : Bool} : ∀ (e : Ex) (n : Nat), wf e → dep e ≤ n → Fm b n (exT e) (b || !hasPl e)
  | .wd s, n, w, d => by
    rw [dep] at d
    obtain ⟨m, rfl⟩ : ∃ m, n = m + 1 := ⟨n - 1, by omega⟩
    unfold wf at w
    have := Fm.word (b := b) (n := m) (s := s) (word_line w)
    rw [w.form] at this
    rw [show (b || !hasPl (.wd s)) = true by unfold hasPl; cases b <;> rfl, exT]
    exact this
  | .pl, n, w, d => by
    rw [dep] at d
    obtain ⟨m, rfl⟩ : ∃ m, n = m + 1 := ⟨n - 1, by omega⟩
    have := Fm.one (b := b) (n := m) (z := "place")
    rw [show (b && decide (("place" : Str) = "place")) = b by rw [decide_eq_true rfl, Bool.and_true]] at this
    rw [show (b || !hasPl .pl) = b by unfold hasPl; cases b <;> rfl, exT]
    exact this
  | .ag e, n, w, d => by
    rw [dep] at d
    obtain ⟨m, rfl⟩ : ∃ m, n = m + 1 := ⟨n - 1, by omega⟩
    unfold wf at w
    rw [hasPl, exT]
    exact .again (fm_ex e m w (by omega))
  | .rw es, n, w, d => by
    rw [dep] at d
    obtain ⟨m, rfl⟩ : ∃ m, n = m + 1 := ⟨n - 1, by omega⟩
    unfold wf at w
    have f := fms_ex (b := b) es m w.2 (by omega)
    have := Fm.row (b := b) (n := m) (ts := exTs es) (rs := es.map fun e => b || !hasPl e) (by rw [exTs_len]; omega) (by rw [List.length_map, exTs_len]) fun i t r ht hr => by
      rw [exTs_map, List.getElem?_map] at ht
      rw [List.getElem?_map] at hr
      cases q : es[i]? with
      | none => rw [q] at ht; cases ht
      | some e =>
        rw [q] at ht hr
        cases ht
        cases hr
        exact f e (List.mem_of_getElem? q)
    rw [exT, hasPl]
    rw [show (b || !anyPl es) = (es.map fun e => b || !hasPl e).all id by
      rw [anyPl_eq]
      cases b
      · rw [Bool.false_or, any_not]
        rfl
      · simp]
    exact this
theorem fms_ex {b : Bool} : ∀ (es : List Ex) (n : Nat), wfs es → deps es ≤ n → ∀ e ∈ es, Fm b n (exT e) (b || !hasPl e)
  | [], n, w, d, e, m => by cases m
  | f :: es, n, w, d, e, m => by
    unfold wfs at w
    rw [deps] at d
    have d1 := Nat.le_trans (Nat.le_max_left _ _) d
    have d2 := Nat.le_trans (Nat.le_max_right _ _) d
    rcases List.mem_cons.mp m with h | m
    · have := fm_ex (b := b) f n w.1 d1
      rw [h]
      exact this
    · exact fms_ex es n w.2 d2 e m
end
/-- a list's walk, whatever is done at each item -/
theorem lcG {K : PySem.W.Frag} {a : Addr} {xs : List V} {H0 : Hp} {B : V → Hp → (Hp → Prop) → Prop} {Qd : Hp → Prop} (Pv : Nat → Hp → Prop) (h0 : Pv 0 H0) (hl : ∀ i H, i ≤ xs.length → Pv i H → SqL K H a xs)
    (hs : ∀ i x H, xs[i]? = some x → Pv i H → B x H (Pv (i + 1))) (hd : ∀ H, Pv xs.length H → Qd H) :
    ∃ W : Nat → Nat → Hp → Prop, (∃ m, W 0 m H0) ∧ ∀ i m H, W i m H → ((Itl K a).stop i H ∧ Qd H) ∨ ((Itl K a).go i H ∧ ∃ Nx : Hp → Prop, (∀ H', Nx H' → ∃ m', m' < m ∧ W (i + 1) m' H') ∧ ∀ x H', (Itl K a).yld i H x H' → B x H' Nx) := by
  refine ⟨fun i m H => m = xs.length - i ∧ i ≤ xs.length ∧ Pv i H, ⟨xs.length, by simp, Nat.zero_le _, h0⟩, ?_⟩
  rintro i m H ⟨rfl, hi, p⟩
  have q := hl i H hi p
  by_cases hlt : i < xs.length
  · refine .inr ⟨⟨xs, xs[i], q, by simp [hlt]⟩, Pv (i + 1), fun H' p' => ⟨xs.length - (i + 1), by omega, rfl, hlt, p'⟩, fun x H' y => ?_⟩
    obtain ⟨e, y⟩ := y
    subst e
    exact hs i x _ (y xs q) p
  · have e : i = xs.length := by omega
    subst e
    exact .inl ⟨⟨xs, q, Nat.le_refl _⟩, hd H p⟩
/-! ### has_place -/
abbrev sHP : Stmt := top 13
abbrev nHP : List Str := ["expression", "part"]
theorem scHP : FnScope nHP ["expression"] (defScope sHP) := ⟨rfl, rfl, rfl, by decide +kernel, rfl, by decide +kernel, by decide +kernel⟩
def spHP (n : Nat) : Sp := fun vs H Q _ => ∃ v e, vs = [v] ∧ ExAt H v e ∧ wf e ∧ dep e ≤ n ∧ ∀ H', Same H H' → Q (.bl (hasPl e)) H'
/-! ### leaves_of -/
abbrev sLv : Stmt := top 11
abbrev nLv : List Str := ["expression", "part", "job"]
theorem scLv : FnScope nLv ["expression"] (defScope sLv) := ⟨rfl, rfl, rfl, by decide +kernel, rfl, by decide +kernel, by decide +kernel⟩
def spLv (n : Nat) : Sp := fun vs H Q _ => ∃ v e, vs = [v] ∧ ExAt H v e ∧ wf e ∧ dep e ≤ n ∧ (lvs e).length ≤ 900 ∧ ∀ l H', Same H H' → H l = none → H' l = some (.lst ((lvs e).map V.str)) → Q (.ref l) H'
section
variable {P : Program} {w : World} {K : PySem.W.Frag} {mg : Str → Option Value} {base : Heap} {f : Addr} {fd : FuncData}
theorem ok_hp_step {n : Nat} (F : FnP K "has_place" sHP f fd) (G : Got P w K mg base (n + 1) "has_place" ["expression"] (spHP n)) (mIs : mg "isinstance" = none) (mS : mg "str" = none) (mA : mg "any" = none) :
    FnOk P w K mg base CX0 (n + 2) f fd ["expression"] (spHP (n + 1)) := by
  refine F.ok scHP (fun vs H Q E h => ?_) (fun cdv A outer s H vs Q E hr h => ?_)
  · obtain ⟨v, e, rfl, _⟩ := h
    rfl
  · obtain ⟨v, e, rfl, hv, we, de, q⟩ := h
    refine ⟨_, PSs.nox (pss_cons (ps_if (pt_val (pe_callB call_isi (by rfl) mIs (by decide +kernel) (pa_cons (pv 0) (pa_cons (pe_bltn (v := .ty "str") (u := .type "str") (by rfl) mS (by decide +kernel) rfl) pa_nil)))) (pss_one (ps_ret pe_bl)) pss_nil)
      (pss_cons (ps_if (pt_cmpR op_eq (pe_ix ix_tup (pv 0) pe_int (fun _ _ => rfl)) pe_str (nomark _)) (pss_one (ps_ret (pe_got G hr (pa_cons (pe_ix ix_tup (pv 0) pe_int (fun _ _ => rfl)) pa_nil) (by rfl) (Nat.le_refl _)))) pss_nil)
      (pss_one (ps_ret (pe_or (pe_cmpR op_eq (pe_ix ix_tup (pv 0) pe_int (fun _ _ => rfl)) pe_str (nomark _)) (pe_one (pe_callB (cr_any rfl) (by rfl) mA (by decide +kernel) (pa_cons
        (pe_lc (own := [("part", 1)]) (g := gName 1) (tt := tYes) (by rfl) scHP.nd (pi_list (pe_ix ix_tup (pv 0) pe_int (fun _ _ => rfl))) (blkOk_by (own := [("part", 1)]) (N := nHP) (sc := defScope sHP) (by decide +kernel))
          (fun _ _ _ _ _ => pg_name (i := 1) scHP.nd rfl (Or.inl rfl)) (fun _ _ _ _ _ => pts_nil) (fun _ _ _ _ _ => pe_got G hr (pa_cons (pv 1) pa_nil) (by rfl) (Nat.le_refl _))) pa_nil)))))))), ?_⟩
    have rf : Same H H := fun _ _ e => e
    cases e with
    | wd s =>
      obtain rfl := ex_wd hv
      exact ⟨_, rfl, .str s, .ty "str", _, _, true, rfl, .ty _, .base (.str s), kit_ty (by decide +kernel), _, rfl, iteT (q H rf)⟩
    | pl =>
      obtain ⟨a, rfl, ha⟩ := ex_pl hv
      refine ⟨_, rfl, .ref a, .ty "str", _, _, false, rfl, .ty _, .base (.tup ha), kit_ty (by decide +kernel), _, rfl, iteF ?_⟩
      refine ⟨_, rfl, a, _, _, .str "place", rfl, rfl, SqT.of ha, at0 _ _, rfl, ?_⟩
      rw [decide_eq_false (by decide)]
      refine ⟨_, rfl, iteF ?_⟩
      refine ⟨_, rfl, a, _, _, .str "place", rfl, rfl, SqT.of ha, at0 _ _, rfl, ?_⟩
      rw [decide_eq_true rfl]
      exact ⟨_, rfl, iteT (q H rf)⟩
    | ag e =>
      obtain ⟨a, u, rfl, ha, hu⟩ := ex_ag hv
      unfold wf at we
      rw [dep] at de
      refine ⟨_, rfl, .ref a, .ty "str", _, _, false, rfl, .ty _, .base (.tup ha), kit_ty (by decide +kernel), _, rfl, iteF ?_⟩
      refine ⟨_, rfl, a, _, _, .str "again", rfl, rfl, SqT.of ha, at0 _ _, rfl, ?_⟩
      rw [decide_eq_true rfl]
      refine ⟨_, rfl, iteT ?_⟩
      exact ⟨_, rfl, a, _, _, u, rfl, rfl, SqT.of ha, at1 _ _ _, u, e, rfl, hu, we, by omega, q⟩
    | rw es =>
      obtain ⟨a, l, us, rfl, ha, hl, hu⟩ := ex_rw hv
      unfold wf at we
      rw [dep] at de
      have lus := lds_exlen hu
      refine ⟨_, rfl, .ref a, .ty "str", _, _, false, rfl, .ty _, .base (.tup ha), kit_ty (by decide +kernel), _, rfl, iteF ?_⟩
      refine ⟨_, rfl, a, _, _, .str "row", rfl, rfl, SqT.of ha, at0 _ _, rfl, ?_⟩
      rw [decide_eq_false (by decide)]
      refine ⟨_, rfl, iteF ?_⟩
      refine ⟨_, rfl, a, _, _, .str "row", rfl, rfl, SqT.of ha, at0 _ _, rfl, ?_⟩
      rw [decide_eq_false (by decide)]
      refine ⟨_, rfl, iteF ?_⟩
      refine ⟨_, rfl, a, _, _, .ref l, rfl, rfl, SqT.of ha, at1 _ _ _, l, rfl, ⟨_, SqL.of hl⟩, fun D hD => ?_⟩
      refine lc_list (K := K) (a := l) (xs := us) (fun i H' => Same H H' ∧ H' D = some (.lst (((es.map hasPl).take i).map V.bl))) ⟨same_upd hD, upd_same⟩ (fun i H' _ ⟨sA, _⟩ => SqL.of (sA _ _ hl)) ?_ ?_
      · rintro i x H' hx ⟨sA, gA⟩
        obtain ⟨e, he, hxe⟩ := lds_ex hu hx
        have hr' : (es.map hasPl)[i]? = some (hasPl e) := by rw [List.getElem?_map, he]; rfl
        have me := List.mem_of_getElem? he
        refine ⟨rfl, ?_⟩
        dsimp only [tYes]
        rw [if_pos rfl]
        refine ⟨_, rfl, x, e, rfl, hxe.same sA, wfs_at we.2 me, by have := deps_at me; omega, fun H2 s2 => ?_⟩
        exact ans_step hD (sA.trans s2) (s2 _ _ gA) hr' (by rw [List.length_map]; omega)
      · rintro H2 ⟨sA, gA⟩
        have e : us.length = (es.map hasPl).length := by rw [List.length_map]; exact lus
        rw [e, List.take_length] at gA
        refine ⟨D, _, rfl, SqL.of gA, ?_⟩
        have := q H2 sA
        rw [hasPl, anyPl_eq] at this
        exact this
theorem ok_lv_step {n : Nat} (F : FnP K "leaves_of" sLv f fd) (G : Got P w K mg base (n + 1) "leaves_of" ["expression"] (spLv n)) (mIs : mg "isinstance" = none) (mS : mg "str" = none) :
    FnOk P w K mg base CX0 (n + 2) f fd ["expression"] (spLv (n + 1)) := by
  refine F.ok scLv (fun vs H Q E h => ?_) (fun cdv A outer s H vs Q E hr h => ?_)
  · obtain ⟨v, e, rfl, _⟩ := h
    rfl
  · obtain ⟨v, e, rfl, hv, we, de, le, q⟩ := h
    refine ⟨_, PSs.nox (pss_cons (ps_if (pt_val (pe_callB call_isi (by rfl) mIs (by decide +kernel) (pa_cons (pv 0) (pa_cons (pe_bltn (v := .ty "str") (u := .type "str") (by rfl) mS (by decide +kernel) rfl) pa_nil)))) (pss_one (ps_ret (pe_lst (pa_cons (pv 0) pa_nil)))) pss_nil)
      (pss_cons (ps_if (pt_cmpR op_eq (pe_ix ix_tup (pv 0) pe_int (fun _ _ => rfl)) pe_str (nomark _)) (pss_one (ps_ret (pe_got G hr (pa_cons (pe_ix ix_tup (pv 0) pe_int (fun _ _ => rfl)) pa_nil) (by rfl) (Nat.le_refl _)))) pss_nil)
      (pss_cons (ps_if (pt_cmpR op_eq (pe_ix ix_tup (pv 0) pe_int (fun _ _ => rfl)) pe_str (nomark _)) (pss_one (ps_ret (pe_lst pa_nil))) pss_nil)
      (pss_one (ps_ret (pe_lc2 (own := [("part", 1), ("job", 2)]) (vs1 := [2]) (wi1 := iList K (tCall (spLv n) [] E0 (tCons (tVar 1) tNil))) (te := tVar 2) (g := gName 1) (tt := tYes) (g1 := gName 2) (tt1 := tYes) (by rfl) scLv.nd (pi_list (pe_ix ix_tup (pv 0) pe_int (fun _ _ => rfl))) (blkOk_by (own := [("part", 1), ("job", 2)]) (N := nLv) (sc := defScope sLv) (by decide +kernel)) (by decide)
          (fun _ _ _ _ _ => pg_name (i := 1) scLv.nd rfl (Or.inl rfl)) (fun _ _ _ _ _ => pts_nil)
          (fun _ _ _ _ _ => pi_list (pe_got G hr (pa_cons (pv 1) pa_nil) (by rfl) (Nat.le_refl _))) (fun _ _ _ _ _ => pg_name (i := 2) scLv.nd rfl (Or.inl rfl)) (fun _ _ _ _ _ => pts_nil) (fun _ _ _ _ _ => pv 2))))))), ?_⟩
    have rf : Same H H := fun _ _ e => e
    cases e with
    | wd s =>
      obtain rfl := ex_wd hv
      refine ⟨_, rfl, .str s, .ty "str", _, _, true, rfl, .ty _, .base (.str s), kit_ty (by decide +kernel), _, rfl, iteT ?_⟩
      exact ⟨_, rfl, (by show 1 ≤ sizeLine; decide), fun l hl => q l _ (same_upd hl) hl upd_same⟩
    | pl =>
      obtain ⟨a, rfl, ha⟩ := ex_pl hv
      refine ⟨_, rfl, .ref a, .ty "str", _, _, false, rfl, .ty _, .base (.tup ha), kit_ty (by decide +kernel), _, rfl, iteF ?_⟩
      refine ⟨_, rfl, a, _, _, .str "place", rfl, rfl, SqT.of ha, at0 _ _, rfl, ?_⟩
      rw [decide_eq_false (by decide)]
      refine ⟨_, rfl, iteF ?_⟩
      refine ⟨_, rfl, a, _, _, .str "place", rfl, rfl, SqT.of ha, at0 _ _, rfl, ?_⟩
      rw [decide_eq_true rfl]
      exact ⟨_, rfl, iteT ⟨(by show 0 ≤ sizeLine; decide), fun l hl => q l _ (same_upd hl) hl upd_same⟩⟩
    | ag e =>
      obtain ⟨a, u, rfl, ha, hu⟩ := ex_ag hv
      unfold wf at we
      rw [dep] at de
      refine ⟨_, rfl, .ref a, .ty "str", _, _, false, rfl, .ty _, .base (.tup ha), kit_ty (by decide +kernel), _, rfl, iteF ?_⟩
      refine ⟨_, rfl, a, _, _, .str "again", rfl, rfl, SqT.of ha, at0 _ _, rfl, ?_⟩
      rw [decide_eq_true rfl]
      refine ⟨_, rfl, iteT ?_⟩
      exact ⟨_, rfl, a, _, _, u, rfl, rfl, SqT.of ha, at1 _ _ _, u, e, rfl, hu, we, by omega, le, q⟩
    | rw es =>
      obtain ⟨a, l, us, rfl, ha, hl, hu⟩ := ex_rw hv
      unfold wf at we
      rw [dep] at de
      have lus := lds_exlen hu
      refine ⟨_, rfl, .ref a, .ty "str", _, _, false, rfl, .ty _, .base (.tup ha), kit_ty (by decide +kernel), _, rfl, iteF ?_⟩
      refine ⟨_, rfl, a, _, _, .str "row", rfl, rfl, SqT.of ha, at0 _ _, rfl, ?_⟩
      rw [decide_eq_false (by decide)]
      refine ⟨_, rfl, iteF ?_⟩
      refine ⟨_, rfl, a, _, _, .str "row", rfl, rfl, SqT.of ha, at0 _ _, rfl, ?_⟩
      rw [decide_eq_false (by decide)]
      refine ⟨_, rfl, iteF ?_⟩
      refine ⟨_, rfl, a, _, _, .ref l, rfl, rfl, SqT.of ha, at1 _ _ _, l, rfl, ⟨_, SqL.of hl⟩, fun D hD => ?_⟩
      rw [lvs] at le
      have pre : ∀ i, lvss es = lvss (es.take i) ++ lvss (es.drop i) := fun i => by
        rw [lvss_flat, lvss_flat, lvss_flat, ← List.flatten_append, ← List.map_append, List.take_append_drop]
      refine lcG (K := K) (a := l) (xs := us) (fun i H' => Same H H' ∧ H' D = some (.lst ((lvss (es.take i)).map V.str))) ⟨same_upd hD, upd_same⟩ (fun i H' _ ⟨sA, _⟩ => SqL.of (sA _ _ hl)) ?_ ?_
      · rintro i x H' hx ⟨sA, gA⟩
        obtain ⟨e, he, hxe⟩ := lds_ex hu hx
        have me := List.mem_of_getElem? he
        have step : lvss (es.take (i + 1)) = lvss (es.take i) ++ lvs e := by
          rw [List.take_succ, he, lvss_flat, lvss_flat, List.map_append, List.flatten_append]
          simp
        have p1 := pre (i + 1)
        rw [step] at p1
        have lp := congrArg List.length p1
        rw [List.length_append, List.length_append] at lp
        refine ⟨rfl, ?_⟩
        dsimp only [tYes]
        rw [if_pos rfl]
        refine ⟨_, rfl, x, e, rfl, hxe.same sA, wfs_at we.2 me, by have := deps_at me; omega, by omega, fun m H2 s2 fm gm => ⟨m, rfl, ⟨_, SqL.of gm⟩, ?_⟩⟩
        have nmD : m ≠ D := fun z => by
          rw [z, gA] at fm
          cases fm
        refine lcG (K := K) (a := m) (xs := (lvs e).map V.str) (fun j H3 => Same H H3 ∧ H3 m = some (.lst ((lvs e).map V.str)) ∧ H3 D = some (.lst ((lvss (es.take i) ++ (lvs e).take j).map V.str))) ⟨sA.trans s2, gm, by
          rw [List.take_zero, List.append_nil]
          exact s2 _ _ gA⟩ (fun j H3 _ ⟨_, g3, _⟩ => SqL.of g3) ?_ ?_
        · rintro j y H3 hy ⟨s3, g3, gD⟩
          refine ⟨rfl, ?_⟩
          dsimp only [tYes]
          rw [if_pos rfl]
          have hj := (List.getElem?_eq_some_iff.mp hy).1
          rw [List.length_map] at hj
          rw [List.getElem?_map] at hy
          have ej : (lvs e)[j]? = some (lvs e)[j] := List.getElem?_eq_getElem hj
          rw [ej] at hy
          cases hy
          refine ⟨_, rfl, _, gD, small1000 (by rw [List.length_map, List.length_append, List.length_take]; omega), fun c o z => ?_, (upd_ne nmD).trans g3, ?_⟩
          · rw [upd_ne (ne_of_none z hD)]
            exact s3 _ _ z
          · rw [upd_same, List.take_succ, ej, List.map_append, List.map_append, List.map_append, List.append_assoc]
            rfl
        · rintro H3 ⟨s3, g3, gD⟩
          refine ⟨s3, ?_⟩
          rw [List.length_map, List.take_length] at gD
          rw [step]
          exact gD
      · rintro H2 ⟨sA, gA⟩
        rw [lus, List.take_length] at gA
        exact q D H2 sA hD gA
end
end L2.K57
set_option Elab.async false
set_option linter.all false
set_option maxRecDepth 100000
set_option maxHeartbeats 4000000
namespace L2.EV
open PySem PySem.Spec PyProof.Rows
/-! ### max(xs, default=d) of whole numbers -/
abbrev kwD (d : Value) : List (Str × Value) := [(Str.ofString "default", d)]
theorem maxd_args (a d : Value) : argsOk "max" ⟨[a], kwD d⟩ := by
  unfold argsOk
  kernel_rfl
section
variable {P : Program} {w : World} {A : Around} {R : Result → Shared → Prop} {It S : Addr} {fp wr : List Addr} {n : Nat} {Pv : Nat → Value → Prop} {St : Nat → Heap → Prop} {d : Value}
abbrev cellS (vs : Array Value) (c : Nat) : Obj := { cls := .type "list", dict := none, data := .seq vs c, slots := #[] }
theorem maxd_name : (toString "max" ++ toString ".loop" : String) = "max.loop" := by decide
/-- from the second item on -/
theorem maxd_loop (W : Walks P w A.in1 It fp wr n Pv St) (bt : Nat → Nat → Bool) (cm : CmpOf P w A.in1 .Gt Pv bt) (nS : S ∉ fp) : ∀ (left i : Nat) (s : Shared) (best : Value) (c : Nat), n - (i + 1) = left → i + 1 ≤ n → St (i + 1) s.heap → Pv (argBest bt i) best → s.heap.get? S = some (cellS #[best, best] c) →
    (∀ v h' tk, Pv (argBest bt (n - 1)) v → (∀ b o, b ∉ wr → b ≠ S → s.heap.get? b = some o → h'.get? b = some o) → R (.ok (.ret v)) { s with heap := h', toks := tk }) → codeAny (model P w) A (.builtin "max.loop" ⟨[.ref It, .none, .ref S], kwD d⟩) R s := by
  have nW : S ∉ wr := fun z => nS (W.sub _ z)
  intro left
  induction left with
  | zero =>
    intro i s best c el li st pb gS q
    have ei : i + 1 = n := by omega
    refine codeAny_builtin F.entry_max_loop ?_
    rw [Around.under_plainId F.plain_max_loop _]
    show wpAny _ A.in1 (seqItems? (.ref S) >>= _) _ _ s
    refine wpAny_bind (wpAny_seqItems gS rfl ?_)
    show wpAny _ A.in1 (tryCatch (pyNext (.ref It)) _ >>= _) _ _ s
    refine wpAny_bind (wpAny_tryCatch (W.done s _ _ (ei ▸ st) fun h' tk kp => ?_))
    have gS' := kp S _ nW gS
    show wpAny _ A.in1 (updateSeq S (fun _ => #[]) >>= _) _ _ _
    refine wpAny_bind ?_
    refine wpAny_updateSeq gS' rfl (wpAny_bind (wpAny_letGo (wpAny_pure ?_)))
    exact q best _ tk (by rw [← ei]; exact pb) fun b o nb nbS e => (Heap.get?_update_other _ _ (Ne.symm nbS)).trans (kp b o nb e)
  | succ left ih =>
    intro i s best c el li st pb gS q
    have lt : i + 1 < n := by omega
    refine codeAny_builtin F.entry_max_loop ?_
    rw [Around.under_plainId F.plain_max_loop _]
    show wpAny _ A.in1 (seqItems? (.ref S) >>= _) _ _ s
    refine wpAny_bind (wpAny_seqItems gS rfl ?_)
    show wpAny _ A.in1 (tryCatch (pyNext (.ref It)) _ >>= _) _ _ s
    refine wpAny_bind (wpAny_tryCatch (W.item (i + 1) s _ _ lt st fun v h' tk pv st' kp => ?_))
    have gS' := kp S _ nW gS
    show wpAny _ A.in1 (tryCatch (holding [v, v] (richCompare .Gt v best >>= _)) _ >>= _) _ _ _
    refine wpAny_bind (wpAny_tryCatch (wpAny_holding (wpAny_bind (cm (i + 1) (argBest bt i) v best _ _ _ pv pb ?_))))
    refine wpAny_bind (wpAny_holding (wpAny_truthy_bool ?_))
    refine wpAny_bind (wpAny_letGo (wpAny_pure ?_))
    cases hb : bt (i + 1) (argBest bt i) with
    | true =>
      rw [if_pos rfl]
      refine wpAny_bind ?_
      refine wpAny_updateSeq gS' rfl (wpAny_bind (wpAny_letGo ?_))
      rw [maxd_name]
      refine wpAny_pure ⟨plainId_quiet F.plain_max_loop _, ih (i + 1) _ v _ (by omega) lt (W.frame _ _ _ st' fun b hbf o e => ?_) (by rw [argBest, hb, if_pos rfl]; exact pv) (Heap.get?_update_self _ gS' rfl) fun u h2 tk2 pu kp2 => ?_⟩
      · exact (Heap.get?_update_other _ _ (fun z : S = b => nS (by rw [z]; exact hbf))).trans e
      · exact q u h2 tk2 pu fun b o nb nbS e => kp2 b o nb nbS ((Heap.get?_update_other _ _ (Ne.symm nbS)).trans (kp b o nb e))
    | false =>
      rw [if_neg Bool.false_ne_true]
      refine wpAny_bind (wpAny_letGo ?_)
      rw [maxd_name]
      refine wpAny_pure ⟨plainId_quiet F.plain_max_loop _, ih (i + 1) _ best c (by omega) lt st' (by rw [argBest, hb, if_neg Bool.false_ne_true]; exact pb) gS' fun u h2 tk2 pu kp2 => ?_⟩
      exact q u h2 tk2 pu fun b o nb nbS e => kp2 b o nb nbS (kp b o nb e)
/-- from the start -/
theorem maxd_first (W : Walks P w A.in1 It fp wr n Pv St) (bt : Nat → Nat → Bool) (cm : CmpOf P w A.in1 .Gt Pv bt) (nS : S ∉ fp) {s : Shared} {c : Nat} (st : St 0 s.heap) (gS : s.heap.get? S = some (cellS #[] c))
    (q0 : n = 0 → ∀ h' tk, (∀ b o, b ∉ wr → b ≠ S → s.heap.get? b = some o → h'.get? b = some o) → R (.ok (.ret d)) { s with heap := h', toks := tk })
    (q : 0 < n → ∀ v h' tk, Pv (argBest bt (n - 1)) v → (∀ b o, b ∉ wr → b ≠ S → s.heap.get? b = some o → h'.get? b = some o) → R (.ok (.ret v)) { s with heap := h', toks := tk }) : codeAny (model P w) A (.builtin "max.loop" ⟨[.ref It, .none, .ref S], kwD d⟩) R s := by
  have nW : S ∉ wr := fun z => nS (W.sub _ z)
  refine codeAny_builtin F.entry_max_loop ?_
  rw [Around.under_plainId F.plain_max_loop _]
  show wpAny _ A.in1 (seqItems? (.ref S) >>= _) _ _ s
  refine wpAny_bind (wpAny_seqItems gS rfl ?_)
  show wpAny _ A.in1 (tryCatch (pyNext (.ref It)) _ >>= _) _ _ s
  by_cases hn : n = 0
  · refine wpAny_bind (wpAny_tryCatch (W.done s _ _ (hn ▸ st) fun h' tk kp => ?_))
    show wpAny _ A.in1 (rule (toString "max" ++ toString ".default") >>= _) _ _ _
    refine wpAny_bind ?_
    refine wpAny_rule (wpAny_pure ?_)
    exact q0 hn h' tk fun b o nb _ e => kp b o nb e
  · refine wpAny_bind (wpAny_tryCatch (W.item 0 s _ _ (by omega) st fun v h' tk pv st' kp => ?_))
    have gS' := kp S _ nW gS
    show wpAny _ A.in1 (updateSeq S (fun _ => #[v, v]) >>= _) _ _ _
    refine wpAny_bind ?_
    refine wpAny_updateSeq gS' rfl ?_
    rw [maxd_name]
    refine wpAny_pure ⟨plainId_quiet F.plain_max_loop _, maxd_loop W bt cm nS _ 0 _ v _ rfl (by omega) (W.frame _ _ _ st' fun b hbf o e => ?_) pv (Heap.get?_update_self _ gS' rfl) fun u h2 tk2 pu kp2 => ?_⟩
    · exact (Heap.get?_update_other _ _ (fun z : S = b => nS (by rw [z]; exact hbf))).trans e
    · exact q (by omega) u h2 tk2 pu fun b o nb nbS e => kp2 b o nb nbS ((Heap.get?_update_other _ _ (Ne.symm nbS)).trans (kp b o nb e))
end
section
variable {P : Program} {w : World} {A : Around} {E : Value → Shared → Prop} {s : Shared} {l : Addr} {its : List Value} {ns : List Int} {d : Value} {Q : Value → Shared → Prop}
theorem max_def (hh : A.handled = none) (hl : s.heap.IsList l its.toArray) (hi : IntsAre its ns) (q0 : ns = [] → ∀ h' tk, (∀ b o, s.heap.get? b = some o → h'.get? b = some o) → Q d { s with heap := h', toks := tk })
    (q : ∀ h' tk M t', (∀ b o, s.heap.get? b = some o → h'.get? b = some o) → M ∈ ns → (∀ a, a ∈ ns → a ≤ M) → Q (.int M t') { s with heap := h', toks := tk }) : wpAny (model P w) A (call (.builtin "max") [.ref l] (kwD d)) Q E s := by
  obtain ⟨xs, ex⟩ := hi.allInts.items
  have en : numsOf (intItems xs).toList = ns := by
    rw [← ex]
    exact hi.numsOf
  rw [nums_intItems] at en
  subst en
  rw [ex] at hl
  refine kmk_tree F.kind_max F.plain_max F.entry_max (maxd_args _ _) ?_
  show wpAny _ A.in1 (Builtin.Builtins.bindParams "max" ["key", "default"] 0 ⟨[], kwD d⟩ >>= _) _ _ s
  refine wpAny_bind (wpAny_of_eq (show Builtin.Builtins.bindParams "max" ["key", "default"] 0 ⟨[], kwD d⟩ = pure [none, some d] from rfl) ?_)
  refine wpAny_bind (wpAny_pure ?_)
  refine wpAny_bind (iter_intList hl fun s2 e2 st fp nl => ?_)
  subst e2
  refine wpAny_bind (wpAny_newObj_type ?_)
  rw [maxd_name]
  have W := Walks.list (prog := P) (w := w) (A := A.in1) hh _ l nl (intItems xs)
  have kp : ∀ {h' : Heap} {x y : Obj}, (∀ b o, b ∉ [s.heap.objs.size] → b ≠ ((s.heap.push x).objs.size) → ((s.heap.push x).push y).get? b = some o → h'.get? b = some o) → ∀ b o, s.heap.get? b = some o → h'.get? b = some o := fun {h' x y} k b o e => by
    have lt := Heap.lt_size e
    refine k b o (fun z => ?_) (fun z => ?_) (Heap.get?_push_of_some _ (Heap.get?_push_of_some _ e))
    · rw [List.mem_singleton.mp z] at lt
      exact Nat.lt_irrefl _ lt
    · have sz : (s.heap.push x).objs.size = s.heap.objs.size + 1 := by rw [Heap.size_push]
      have z' : b = (s.heap.push x).objs.size := z
      have lt' : b < s.heap.objs.size := lt
      rw [z', sz] at lt'
      exact absurd lt' (Nat.not_lt.mpr (Nat.le_succ _))
  refine wpAny_pure ⟨plainId_quiet F.plain_max_loop _, maxd_first W _ (CmpOf.ints_gt (numAt xs) (fun _ _ => intItems_at)) (S := _) (fun z => Nat.lt_irrefl _ (fp _ z)) (W.frame 0 _ _ st fun b _ o e => Heap.get?_push_of_some _ e) (Heap.get?_push_size _ rfl) (fun n0 h' tk k => ?_) (fun n0 v h' tk pv k => ?_)⟩
  · refine q0 ?_ h' tk (kp k)
    have e0 : xs.size = 0 := by simpa [intItems] using n0
    exact List.eq_nil_of_length_eq_zero (by simpa using e0)
  · have pos : 0 < xs.size := by simpa [intItems] using n0
    have pv : (intItems xs)[argBest (fun i j => decide (numAt xs i > numAt xs j)) (xs.size - 1)]? = some v := by simpa [intItems] using pv
    obtain ⟨t, rfl⟩ := intItems_at pv
    obtain ⟨b1, b2⟩ := argBest_gt (numAt xs) (xs.size - 1)
    refine q h' tk _ t (kp k) ?_ fun a ha => ?_
    · rw [numAt_eq]
      exact PySem.getD_mem (by rw [List.length_map, Array.length_toList]; omega)
    · obtain ⟨j, hj, rfl⟩ := mem_getD ha
      rw [List.length_map, Array.length_toList] at hj
      rw [← numAt_eq]
      exact b2 j (by omega)
end
/-- max(xs, default=d) -/
def rMaxDef (K : PySem.W.Frag) : List V → List V → Hp → VK → Prop := fun vs zs H Q => ∃ (a : Addr) (ns : List Int) (d : Int), vs = [V.ref a] ∧ zs = [.int d] ∧ SqL K H a (ns.map V.int) ∧ (ns = [] → Q (.int d) H) ∧ ∀ m, m ∈ ns → (∀ y, y ∈ ns → y ≤ m) → Q (.int m) H
theorem cr_maxDef {X : Cx} (hc : X.calm = true) : CallRK X (.builtin "max") [Str.ofString "default"] (rMaxDef X.K) := by
  intro pins s σ H vs zs us ws Q I r rz h
  obtain ⟨a, ns, d, rfl, rfl, hs, q0, q⟩ := h
  obtain ⟨its, rv, hl, _⟩ := I.list hs
  obtain rfl := Vals.ref1 r
  obtain ⟨w1, rfl, t, rfl⟩ := vals1 rz
  exact max_def (I.ok.hd hc) hl.isList rv.ints (fun e h' tk hk => ⟨.int _, H, I.kept hk, ⟨_, rfl⟩, q0 e⟩) fun h' tk m t' hk h1 h2 => ⟨.int _, H, I.kept hk, ⟨_, rfl⟩, q m h1 h2⟩
end L2.EV
set_option Elab.async false
set_option linter.all false
set_option maxRecDepth 100000
set_option maxHeartbeats 4000000
namespace L2.K57
open PySem PySem.Spec PyProof.Rows L2.EV L2
/-! ### how deep it is nested -/
theorem nsts_le : ∀ {es : List Ex} {m : Nat}, (∀ e ∈ es, nst e ≤ m) → nsts es ≤ m
  | [], m, _ => Nat.zero_le _
  | e :: es, m, h => by
    rw [nsts]
    exact Nat.max_le.mpr ⟨h e List.mem_cons_self, nsts_le fun f hf => h f (List.mem_cons_of_mem _ hf)⟩
theorem nsts_ge : ∀ {es : List Ex} {e : Ex}, e ∈ es → nst e ≤ nsts es
  | f :: es, e, h => by
    rw [nsts]
    rcases List.mem_cons.mp h with rfl | h
    · exact Nat.le_max_left _ _
    · exact Nat.le_trans (nsts_ge h) (Nat.le_max_right _ _)
abbrev sNe : Stmt := top 12
abbrev nNe : List Str := ["expression", "part"]
theorem scNe : FnScope nNe ["expression"] (defScope sNe) := ⟨rfl, rfl, rfl, by decide +kernel, rfl, by decide +kernel, by decide +kernel⟩
def spNe (n : Nat) : Sp := fun vs H Q _ => ∃ v e, vs = [v] ∧ ExAt H v e ∧ wf e ∧ dep e ≤ n ∧ ∀ H', Same H H' → Q (.int (nst e : Nat)) H'
section
variable {P : Program} {w : World} {K : PySem.W.Frag} {mg : Str → Option Value} {base : Heap} {f : Addr} {fd : FuncData}
theorem ok_ne_step {n : Nat} (F : FnP K "nesting_of" sNe f fd) (G : Got P w K mg base (n + 1) "nesting_of" ["expression"] (spNe n)) (mIs : mg "isinstance" = none) (mS : mg "str" = none) (mM : mg "max" = none) :
    FnOk P w K mg base CX0 (n + 2) f fd ["expression"] (spNe (n + 1)) := by
  refine F.ok scNe (fun vs H Q E h => ?_) (fun cdv A outer s H vs Q E hr h => ?_)
  · obtain ⟨v, e, rfl, _⟩ := h
    rfl
  · obtain ⟨v, e, rfl, hv, we, de, q⟩ := h
    refine ⟨_, PSs.nox (pss_cons (ps_if (PW.pt (pw_or (pt_val (pe_callB call_isi (by rfl) mIs (by decide +kernel) (pa_cons (pv 0) (pa_cons (pe_bltn (v := .ty "str") (u := .type "str") (by rfl) mS (by decide +kernel) rfl) pa_nil)))) (pw_or1 (pt_cmpR op_eq (pe_ix ix_tup (pv 0) pe_int (fun _ _ => rfl)) pe_str (nomark _))))) (pss_one (ps_ret pe_int)) pss_nil)
      (pss_cons (ps_if (pt_cmpR op_eq (pe_ix ix_tup (pv 0) pe_int (fun _ _ => rfl)) pe_str (nomark _)) (pss_one (ps_ret (pe_op op_add pe_int (pe_got G hr (pa_cons (pe_ix ix_tup (pv 0) pe_int (fun _ _ => rfl)) pa_nil) (by rfl) (Nat.le_refl _))))) pss_nil)
      (pss_one (ps_ret (pe_callBK (cr_maxDef rfl) (by rfl) mM (by decide +kernel) (pa_cons
        (pe_lc (own := [("part", 1)]) (g := gName 1) (tt := tYes) (by rfl) scNe.nd (pi_list (pe_ix ix_tup (pv 0) pe_int (fun _ _ => rfl))) (blkOk_by (own := [("part", 1)]) (N := nNe) (sc := defScope sNe) (by decide +kernel))
          (fun _ _ _ _ _ => pg_name (i := 1) scNe.nd rfl (Or.inl rfl)) (fun _ _ _ _ _ => pts_nil) (fun _ _ _ _ _ => pe_got G hr (pa_cons (pv 1) pa_nil) (by rfl) (Nat.le_refl _))) pa_nil) (pk_cons pe_int pk_nil)))))), ?_⟩
    have rf : Same H H := fun _ _ e => e
    cases e with
    | wd s =>
      obtain rfl := ex_wd hv
      refine ⟨_, rfl, .str s, .ty "str", _, _, true, rfl, .ty _, .base (.str s), kit_ty (by decide +kernel), _, rfl, iteT (iteT ?_)⟩
      have := q H rf
      rw [nst] at this
      exact this
    | pl =>
      obtain ⟨a, rfl, ha⟩ := ex_pl hv
      refine ⟨_, rfl, .ref a, .ty "str", _, _, false, rfl, .ty _, .base (.tup ha), kit_ty (by decide +kernel), _, rfl, iteF ?_⟩
      refine ⟨_, rfl, a, _, _, .str "place", rfl, rfl, SqT.of ha, at0 _ _, rfl, ?_⟩
      rw [decide_eq_true rfl]
      refine ⟨_, rfl, iteT ?_⟩
      have := q H rf
      rw [nst] at this
      exact this
    | ag e =>
      obtain ⟨a, u, rfl, ha, hu⟩ := ex_ag hv
      unfold wf at we
      rw [dep] at de
      refine ⟨_, rfl, .ref a, .ty "str", _, _, false, rfl, .ty _, .base (.tup ha), kit_ty (by decide +kernel), _, rfl, iteF ?_⟩
      refine ⟨_, rfl, a, _, _, .str "again", rfl, rfl, SqT.of ha, at0 _ _, rfl, ?_⟩
      rw [decide_eq_false (by decide)]
      refine ⟨_, rfl, iteF ?_⟩
      refine ⟨_, rfl, a, _, _, .str "again", rfl, rfl, SqT.of ha, at0 _ _, rfl, ?_⟩
      rw [decide_eq_true rfl]
      refine ⟨_, rfl, iteT ?_⟩
      refine ⟨_, rfl, a, _, _, u, rfl, rfl, SqT.of ha, at1 _ _ _, u, e, rfl, hu, we, by omega, fun H' s' => ⟨_, _, rfl, rfl, ?_⟩⟩
      have := q H' s'
      rw [nst] at this
      exact this
    | rw es =>
      obtain ⟨a, l, us, rfl, ha, hl, hu⟩ := ex_rw hv
      unfold wf at we
      rw [dep] at de
      have lus := lds_exlen hu
      refine ⟨_, rfl, .ref a, .ty "str", _, _, false, rfl, .ty _, .base (.tup ha), kit_ty (by decide +kernel), _, rfl, iteF ?_⟩
      refine ⟨_, rfl, a, _, _, .str "row", rfl, rfl, SqT.of ha, at0 _ _, rfl, ?_⟩
      rw [decide_eq_false (by decide)]
      refine ⟨_, rfl, iteF ?_⟩
      refine ⟨_, rfl, a, _, _, .str "row", rfl, rfl, SqT.of ha, at0 _ _, rfl, ?_⟩
      rw [decide_eq_false (by decide)]
      refine ⟨_, rfl, iteF ?_⟩
      refine ⟨_, rfl, a, _, _, .ref l, rfl, rfl, SqT.of ha, at1 _ _ _, l, rfl, ⟨_, SqL.of hl⟩, fun D hD => ?_⟩
      refine lc_list (K := K) (a := l) (xs := us) (fun i H' => Same H H' ∧ H' D = some (.lst ((es.take i).map fun e => V.int (nst e : Nat)))) ⟨same_upd hD, upd_same⟩ (fun i H' _ ⟨sA, _⟩ => SqL.of (sA _ _ hl)) ?_ ?_
      · rintro i x H' hx ⟨sA, gA⟩
        obtain ⟨e, he, hxe⟩ := lds_ex hu hx
        have me := List.mem_of_getElem? he
        refine ⟨rfl, ?_⟩
        dsimp only [tYes]
        rw [if_pos rfl]
        refine ⟨_, rfl, x, e, rfl, hxe.same sA, wfs_at we.2 me, by have := deps_at me; omega, fun H2 s2 => ?_⟩
        refine ⟨_, s2 _ _ gA, small1000 (by rw [List.length_map, List.length_take]; omega), fun c o z => ?_, ?_⟩
        · rw [upd_ne (ne_of_none z hD)]
          exact s2 _ _ (sA _ _ z)
        · rw [upd_same, List.take_succ, he, List.map_append]
          rfl
      · rintro H2 ⟨sA, gA⟩
        rw [lus, List.take_length] at gA
        have eq : (es.map fun e => V.int (nst e : Nat)) = (es.map fun e => ((nst e : Nat) : Int)).map V.int := by
          rw [List.map_map]
          rfl
        rw [eq] at gA
        have fin := q H2 sA
        rw [nst] at fin
        refine ⟨D, _, 0, rfl, rfl, SqL.of gA, fun e0 => ?_, fun m hm hb => ?_⟩
        · have en : es = [] := List.map_eq_nil_iff.mp e0
          subst en
          exact fin
        · obtain ⟨e, he, rfl⟩ := List.mem_map.mp hm
          have a1 := nsts_ge he
          have a2 : nsts es ≤ nst e := nsts_le fun g hg => by
            have := hb _ (List.mem_map.mpr ⟨g, hg, rfl⟩)
            omega
          rw [show nst e = nsts es by omega]
          exact fin
end
end L2.K57
set_option Elab.async false
set_option linter.all false
set_option maxRecDepth 100000
set_option maxHeartbeats 4000000
namespace L2.K57
open PySem PySem.Spec PyProof.Rows L2.EV L2
/-! ### things laid with nothing in common -/
mutual
inductive FL (H : Hp) : V → T → (Addr → Prop) → Prop
  | v (x : V) (S : Addr → Prop) : FL H x (.v x) S
  | tup {a : Addr} {xs : List V} {ts : List T} {S S' : Addr → Prop} : H a = some (.tup xs) → S a → ¬ S' a → (∀ b, S' b → S b) → FLs H xs ts S' → FL H (.ref a) (.tup ts) S
  | lst {a : Addr} {xs : List V} {ts : List T} {S S' : Addr → Prop} : H a = some (.lst xs) → S a → ¬ S' a → (∀ b, S' b → S b) → FLs H xs ts S' → FL H (.ref a) (.lst ts) S
inductive FLs (H : Hp) : List V → List T → (Addr → Prop) → Prop
  | nil (S : Addr → Prop) : FLs H [] [] S
  | cons {x : V} {t : T} {xs : List V} {ts : List T} {S S1 S2 : Addr → Prop} : FL H x t S1 → FLs H xs ts S2 → (∀ b, S1 b → S b) → (∀ b, S2 b → S b) → (∀ b, S1 b → ¬ S2 b) → FLs H (x :: xs) (t :: ts) S
end
mutual
theorem FL.laid {H : Hp} : ∀ {x : V} {t : T} {S : Addr → Prop}, FL H x t S → Laid H x t
  | _, _, _, .v x _ => .v x
  | _, _, _, .tup h _ _ _ l => .tup h (FLs.laid l)
  | _, _, _, .lst h _ _ _ l => .lst h (FLs.laid l)
theorem FLs.laid {H : Hp} : ∀ {xs : List V} {ts : List T} {S : Addr → Prop}, FLs H xs ts S → Lds H xs ts
  | _, _, _, .nil _ => .nil
  | _, _, _, .cons h t _ _ _ => .cons (FL.laid h) (FLs.laid t)
end
theorem FL.mono {H : Hp} {x : V} {t : T} {S S2 : Addr → Prop} (h : FL H x t S) (m : ∀ b, S b → S2 b) : FL H x t S2 := by
  cases h with
  | v x => exact .v x _
  | tup h a b c l => exact .tup h (m _ a) b (fun d e => m d (c d e)) l
  | lst h a b c l => exact .lst h (m _ a) b (fun d e => m d (c d e)) l
theorem FLs.mono {H : Hp} {xs : List V} {ts : List T} {S S2 : Addr → Prop} (h : FLs H xs ts S) (m : ∀ b, S b → S2 b) : FLs H xs ts S2 := by
  cases h with
  | nil => exact .nil _
  | cons a b c d e => exact .cons a b (fun u v => m u (c u v)) (fun u v => m u (d u v)) e
mutual
/-- what is kept on the footprint keeps it laid -/
theorem FL.on {H H' : Hp} : ∀ {x : V} {t : T} {S : Addr → Prop}, FL H x t S → (∀ b o, S b → H b = some o → H' b = some o) → FL H' x t S
  | _, _, _, .v x S, _ => .v x S
  | _, _, _, .tup h a b c l, k => .tup (k _ _ a h) a b c (FLs.on l fun d o e f => k d o (c d e) f)
  | _, _, _, .lst h a b c l, k => .lst (k _ _ a h) a b c (FLs.on l fun d o e f => k d o (c d e) f)
theorem FLs.on {H H' : Hp} : ∀ {xs : List V} {ts : List T} {S : Addr → Prop}, FLs H xs ts S → (∀ b o, S b → H b = some o → H' b = some o) → FLs H' xs ts S
  | _, _, _, .nil S, _ => .nil S
  | _, _, _, .cons h t c d e, k => .cons (FL.on h fun u o v f => k u o (c u v) f) (FLs.on t fun u o v f => k u o (d u v) f) c d e
end
theorem FL.same {H H' : Hp} {x : V} {t : T} {S : Addr → Prop} (h : FL H x t S) (s : Same H H') : FL H' x t S := h.on fun _ _ _ e => s _ _ e
theorem FLs.snoc {H : Hp} : ∀ {xs : List V} {ts : List T} {S1 S2 : Addr → Prop} {x : V} {t : T}, FLs H xs ts S1 → FL H x t S2 → (∀ b, S1 b → ¬ S2 b) → FLs H (xs ++ [x]) (ts ++ [t]) (fun b => S1 b ∨ S2 b)
  | _, _, S1, S2, x, t, .nil _, h, _ => .cons (S1 := S2) (S2 := fun _ => False) h (.nil _) (fun _ z => .inr z) (fun _ z => z.elim) (fun _ _ z => z)
  | _, _, S1, S2, x, t, .cons (S1 := A) (S2 := B) a b c d e, h, n => .cons (S1 := A) (S2 := fun u => B u ∨ S2 u) a (FLs.snoc b h fun u z => n u (d u z)) (fun u z => .inl (c u z)) (fun u z => z.elim (fun y => .inl (d u y)) .inr) fun u z y => y.elim (e u z) (n u (c u z))
/-- what is new -/
def nwA (H H' : Hp) : Addr → Prop := fun b => H b = none ∧ H' b ≠ none
/-! ### put in -/
mutual
def put (x : Ex) : Ex → Ex
  | .wd s => .wd s
  | .pl => x
  | .ag e => .ag (put x e)
  | .rw es => .rw (puts x es)
def puts (x : Ex) : List Ex → List Ex
  | [] => []
  | e :: es => put x e :: puts x es
end
theorem puts_map (x : Ex) : ∀ es : List Ex, puts x es = es.map (put x)
  | [] => rfl
  | e :: es => congrArg (put x e :: ·) (puts_map x es)
mutual
theorem put_no {x : Ex} : ∀ {e : Ex}, hasPl e = false → put x e = e
  | .wd _, _ => rfl
  | .pl, h => by unfold hasPl at h; cases h
  | .ag e, h => by
    unfold hasPl at h
    rw [put, put_no h]
  | .rw es, h => by
    unfold hasPl at h
    rw [put, puts_no h]
theorem puts_no {x : Ex} : ∀ {es : List Ex}, anyPl es = false → puts x es = es
  | [], _ => rfl
  | e :: es, h => by
    unfold anyPl at h
    obtain ⟨h1, h2⟩ := Bool.or_eq_false_iff.mp h
    rw [puts, put_no h1, puts_no h2]
end
theorem anyPl_at : ∀ {es : List Ex} {e : Ex}, e ∈ es → hasPl e = true → anyPl es = true
  | f :: es, e, h, p => by
    rw [anyPl]
    rcases List.mem_cons.mp h with rfl | h
    · rw [p, Bool.true_or]
    · rw [anyPl_at h p, Bool.or_true]
abbrev sEw : Stmt := top 14
abbrev pEw : List Str := ["frame", "expression"]
abbrev nEw : List Str := ["frame", "expression", "part"]
theorem scEw : FnScope nEw pEw (defScope sEw) := ⟨rfl, rfl, rfl, by decide +kernel, rfl, by decide +kernel, by decide +kernel⟩
def spEw (n : Nat) : Sp := fun vs H Q _ => ∃ v u f e, vs = [v, u] ∧ ExAt H v f ∧ ExAt H u e ∧ wf f ∧ wf e ∧ hasPl e = false ∧ dep f ≤ n ∧ (hasPl f = true → dep f + dep e ≤ n) ∧ ∀ y H', Same H H' → FL H' y (exT (put e f)) (nwA H H') → Q y H'
section
variable {P : Program} {w : World} {K : PySem.W.Frag} {mg : Str → Option Value} {base : Heap} {f : Addr} {fd : FuncData}
theorem ok_ew_step {n : Nat} (F : FnP K "expression_with" sEw f fd) (G : Got P w K mg base (n + 1) "expression_with" pEw (spEw n)) (mIs : mg "isinstance" = none) (mS : mg "str" = none) :
    FnOk P w K mg base CX0 (n + 2) f fd pEw (spEw (n + 1)) := by
  refine F.ok scEw (fun vs H Q E h => ?_) (fun cdv A outer s H vs Q E hr h => ?_)
  · obtain ⟨v, u, f, e, rfl, _⟩ := h
    rfl
  · obtain ⟨v, u, f, x, rfl, hv, hu, wF, wx, nx, df, dp, q⟩ := h
    refine ⟨_, PSs.nox (pss_cons (ps_if (pt_val (pe_callB call_isi (by rfl) mIs (by decide +kernel) (pa_cons (pv 0) (pa_cons (pe_bltn (v := .ty "str") (u := .type "str") (by rfl) mS (by decide +kernel) rfl) pa_nil)))) (pss_one (ps_ret (pv 0))) pss_nil)
      (pss_cons (ps_if (pt_cmpR op_eq (pe_ix ix_tup (pv 0) pe_int (fun _ _ => rfl)) pe_str (nomark _)) (pss_one (ps_ret (pe_tup (pa_cons pe_str (pa_cons (pe_got G hr (pa_cons (pe_ix ix_tup (pv 0) pe_int (fun _ _ => rfl)) (pa_cons (pv 1) pa_nil)) (by rfl) (Nat.le_refl _)) pa_nil))))) pss_nil)
      (pss_cons (ps_if (pt_cmpR op_eq (pe_ix ix_tup (pv 0) pe_int (fun _ _ => rfl)) pe_str (nomark _)) (pss_one (ps_ret (pe_got G hr (pa_cons (pv 1) (pa_cons (pv 1) pa_nil)) (by rfl) (Nat.le_refl _)))) pss_nil)
      (pss_one (ps_ret (pe_tup (pa_cons pe_str (pa_cons
        (pe_lc (own := [("part", 2)]) (g := gName 2) (tt := tYes) (by rfl) scEw.nd (pi_list (pe_ix ix_tup (pv 0) pe_int (fun _ _ => rfl))) (blkOk_by (own := [("part", 2)]) (N := nEw) (sc := defScope sEw) (by decide +kernel))
          (fun _ _ _ _ _ => pg_name (i := 2) scEw.nd rfl (Or.inl rfl)) (fun _ _ _ _ _ => pts_nil) (fun _ _ _ _ _ => pe_got G hr (pa_cons (pv 2) (pa_cons (pv 1) pa_nil)) (by rfl) (Nat.le_refl _))) pa_nil)))))))), ?_⟩
    have rf : Same H H := fun _ _ e => e
    cases f with
    | wd s =>
      obtain rfl := ex_wd hv
      refine ⟨_, rfl, .str s, .ty "str", _, _, true, rfl, .ty _, .base (.str s), kit_ty (by decide +kernel), _, rfl, iteT ?_⟩
      refine ⟨_, rfl, q _ H rf ?_⟩
      rw [put, exT]
      exact .v _ _
    | pl =>
      obtain ⟨a, rfl, ha⟩ := ex_pl hv
      have dp := dp (by rw [hasPl])
      rw [dep] at dp
      refine ⟨_, rfl, .ref a, .ty "str", _, _, false, rfl, .ty _, .base (.tup ha), kit_ty (by decide +kernel), _, rfl, iteF ?_⟩
      refine ⟨_, rfl, a, _, _, .str "place", rfl, rfl, SqT.of ha, at0 _ _, rfl, ?_⟩
      rw [decide_eq_false (by decide)]
      refine ⟨_, rfl, iteF ?_⟩
      refine ⟨_, rfl, a, _, _, .str "place", rfl, rfl, SqT.of ha, at0 _ _, rfl, ?_⟩
      rw [decide_eq_true rfl]
      refine ⟨_, rfl, iteT ?_⟩
      refine ⟨_, rfl, _, rfl, u, u, x, x, rfl, hu, hu, wx, wx, nx, by omega, fun z => ?_, fun y H' s' l => q y H' s' ?_⟩
      · rw [nx] at z
        cases z
      · rw [put_no nx] at l
        rw [put]
        exact l
    | ag e =>
      obtain ⟨a, t, rfl, ha, ht⟩ := ex_ag hv
      unfold wf at wF
      rw [dep] at df dp
      rw [hasPl] at dp
      refine ⟨_, rfl, .ref a, .ty "str", _, _, false, rfl, .ty _, .base (.tup ha), kit_ty (by decide +kernel), _, rfl, iteF ?_⟩
      refine ⟨_, rfl, a, _, _, .str "again", rfl, rfl, SqT.of ha, at0 _ _, rfl, ?_⟩
      rw [decide_eq_true rfl]
      refine ⟨_, rfl, iteT ?_⟩
      refine ⟨_, rfl, a, _, _, t, rfl, rfl, SqT.of ha, at1 _ _ _, _, rfl, t, u, e, x, rfl, ht, hu, wF, wx, nx, by omega, fun z => by have := dp z; omega, fun y H1 s1 l => ⟨(by show 2 ≤ sizeLine; decide), fun p hp => ?_⟩⟩
      have s2 := same_put (o := .tup [.str "again", y]) hp
      refine q _ _ (s1.trans s2) ?_
      rw [put, exT]
      refine .tup (S' := nwA H H1) upd_same ⟨s1.free hp, by rw [upd_same]; exact fun z => by cases z⟩ (fun z => z.2 hp) (fun b z => ⟨z.1, ?_⟩) (.cons (S1 := fun _ => False) (S2 := nwA H H1) (.v _ _) (.cons (S1 := nwA H H1) (S2 := fun _ => False) (l.same s2) (.nil _) (fun _ z => z) (fun _ z => z.elim) (fun _ _ z => z)) (fun _ z => z.elim) (fun _ z => z) (fun _ z => z.elim))
      rw [upd_ne (fun e => z.2 (by rw [e]; exact hp))]
      exact z.2
    | rw es =>
      obtain ⟨a, l, us, rfl, ha, hl, hus⟩ := ex_rw hv
      unfold wf at wF
      rw [dep] at df dp
      rw [hasPl] at dp
      have lus := lds_exlen hus
      refine ⟨_, rfl, .ref a, .ty "str", _, _, false, rfl, .ty _, .base (.tup ha), kit_ty (by decide +kernel), _, rfl, iteF ?_⟩
      refine ⟨_, rfl, a, _, _, .str "row", rfl, rfl, SqT.of ha, at0 _ _, rfl, ?_⟩
      rw [decide_eq_false (by decide)]
      refine ⟨_, rfl, iteF ?_⟩
      refine ⟨_, rfl, a, _, _, .str "row", rfl, rfl, SqT.of ha, at0 _ _, rfl, ?_⟩
      rw [decide_eq_false (by decide)]
      refine ⟨_, rfl, iteF ?_⟩
      refine ⟨_, rfl, a, _, _, .ref l, rfl, rfl, SqT.of ha, at1 _ _ _, l, rfl, ⟨_, SqL.of hl⟩, fun D hD => ?_⟩
      have sD := same_put (o := .lst []) hD
      have gD0 : upd H D (.lst []) D = some (.lst []) := upd_same
      obtain ⟨H1, eH1⟩ : ∃ H1, H1 = upd H D (.lst []) := ⟨_, rfl⟩
      refine lc_list (K := K) (a := l) (xs := us) (fun i H' => ∃ zs, zs.length = i ∧ H' D = some (.lst zs) ∧ Same H H' ∧ (∀ b, H1 b ≠ none → H' b ≠ none) ∧ FLs (hid H' D) zs (((es.take i).map (put x)).map exT) (nwA H1 H')) ⟨[], rfl, gD0, sD, fun b z => by rw [← eH1]; exact z, .nil _⟩ (fun i H' _ ⟨_, _, _, sA, _⟩ => SqL.of (sA _ _ hl)) ?_ ?_
      · rintro i y H' hy ⟨zs, lz, gD, sA, up, fl⟩
        obtain ⟨e, he, hye⟩ := lds_ex hus hy
        have me := List.mem_of_getElem? he
        refine ⟨rfl, ?_⟩
        dsimp only [tYes]
        rw [if_pos rfl]
        refine ⟨_, rfl, _, rfl, y, u, e, x, rfl, hye.same sA, hu.same sA, wfs_at wF.2 me, wx, nx, by have := deps_at me; omega, fun z => by have := dp (anyPl_at me z); have := deps_at me; omega, fun y' H2 s2 l2 => ?_⟩
        have hz : i < us.length := (List.getElem?_eq_some_iff.mp hy).1
        refine ⟨zs, s2 _ _ gD, small1000 (by omega), zs ++ [y'], by rw [List.length_append, lz]; rfl, upd_same, fun c o z => ?_, fun b z => ?_, ?_⟩
        · rw [upd_ne (ne_of_none z hD)]
          exact s2 _ _ (sA _ _ z)
        · by_cases eb : b = D
          · rw [eb, upd_same]
            exact fun z => by cases z
          · rw [upd_ne eb]
            intro w
            have := up b z
            exact this (s2.free w)
        · rw [hid_upd]
          have e1 : ((es.take (i + 1)).map (put x)).map exT = ((es.take i).map (put x)).map exT ++ [exT (put x e)] := by
            rw [List.take_succ, he, List.map_append, List.map_append]
            rfl
          rw [e1]
          have notD : ¬ nwA H' H2 D := fun z => by
            have := z.1
            rw [gD] at this
            cases this
          have c1 := fl.on (H' := hid H2 D) fun b o _ e => hid_mono s2 _ _ e
          have c2 := l2.on (H' := hid H2 D) fun b o z e => hid_of (fun w => notD (w ▸ z)) e
          refine (c1.snoc c2 fun b z w => z.2 w.1).mono fun b z => ?_
          have nD : b ≠ D → H2 b ≠ none → (upd H2 D (.lst (zs ++ [y']))) b ≠ none := fun n z => by
            rw [upd_ne n]
            exact z
          rcases z with z | z
          · have n : b ≠ D := fun w => by
              have := z.1
              rw [w, eH1, upd_same] at this
              cases this
            exact ⟨z.1, nD n fun w => z.2 (s2.free w)⟩
          · have n : b ≠ D := fun w => notD (w ▸ z)
            refine ⟨?_, nD n z.2⟩
            cases e : H1 b with
            | none => rfl
            | some o => exact absurd z.1 (up b (by rw [e]; exact fun w => by cases w))
      · rintro H2 ⟨zs, lz, gD, sA, up, fl⟩
        rw [lus, List.take_length] at fl
        refine ⟨(by show 2 ≤ sizeLine; decide), fun p hp => ?_⟩
        have s3 := same_put (o := .tup [.str "row", .ref D]) hp
        have npD : p ≠ D := fun e => by
          rw [e, gD] at hp
          cases hp
        refine q _ _ (sA.trans s3) ?_
        rw [put, exT, exTs_map, puts_map]
        have fl3 := fl.on (H' := upd H2 p (.tup [.str "row", .ref D])) fun b o z e => s3 _ _ (hid_old _ _ e)
        have sub : ∀ b, nwA H1 H2 b → b ≠ D ∧ H b = none ∧ H2 b ≠ none := fun b z => by
          have n : b ≠ D := fun w => by
            have := z.1
            rw [w, eH1, upd_same] at this
            cases this
          have z1 := z.1
          rw [eH1, upd_ne n] at z1
          exact ⟨n, z1, z.2⟩
        have in3 : ∀ b, H2 b ≠ none → upd H2 p (.tup [.str "row", .ref D]) b ≠ none := fun b z => by
          rw [upd_ne (fun e => z (by rw [e]; exact hp))]
          exact z
        refine .tup (S' := fun b => b = D ∨ nwA H1 H2 b) upd_same ⟨sA.free hp, by rw [upd_same]; exact fun z => by cases z⟩ (fun z => z.elim npD fun w => w.2 hp) (fun b z => ?_) (.cons (S1 := fun _ => False) (S2 := fun b => b = D ∨ nwA H1 H2 b) (.v _ _) (.cons (S1 := fun b => b = D ∨ nwA H1 H2 b) (S2 := fun _ => False) (.lst (S' := nwA H1 H2) (s3 _ _ gD) (.inl rfl) (fun z => (sub D z).1 rfl) (fun b z => .inr z) fl3) (.nil _) (fun _ z => z) (fun _ z => z.elim) (fun _ _ z => z)) (fun _ z => z.elim) (fun _ z => z) (fun _ z => z.elim))
        rcases z with rfl | z
        · exact ⟨hD, in3 _ (by rw [gD]; exact fun z => by cases z)⟩
        · exact ⟨(sub b z).2.1, in3 _ (sub b z).2.2⟩
end
end L2.K57
set_option Elab.async false
set_option linter.all false
set_option maxRecDepth 100000
set_option maxHeartbeats 4000000
namespace L2.K57
open PySem PySem.Spec PyProof.Rows L2.EV L2
/-! ### the program's own words -/
theorem ps_dead {X : Cx} {s : Stmt} : PS X s (fun _ _ _ => False) := ⟨fun _ _ _ _ _ _ h => h.elim⟩
theorem pe_dead {X : Cx} {e : Expr} : PE X e (fun _ _ _ => False) := ⟨fun _ _ _ _ _ _ h => h.elim⟩
abbrev N0 : Nat := 16
abbrev sIo : Stmt := top 16
theorem scIo : FnScope ["value"] ["value"] (defScope sIo) := ⟨rfl, rfl, rfl, by decide +kernel, rfl, by decide +kernel, by decide +kernel⟩
def spIo : Sp := fun vs H Q _ => ∃ v, vs = [v] ∧ ((∃ t, Laid H v t ∧ Fm true N0 t false ∧ ∀ H', Same H H' → Q (.bl false) H') ∨ ∃ e, ExAt H v e ∧ wf e ∧ dep e ≤ N0 ∧ ∀ H', Same H H' → Q (.bl (hasPl e)) H')
abbrev sIp : Stmt := top 17
theorem scIp : FnScope ["value"] ["value"] (defScope sIp) := ⟨rfl, rfl, rfl, by decide +kernel, rfl, by decide +kernel, by decide +kernel⟩
abbrev sIe : Stmt := top 20
theorem scIe : FnScope ["value"] ["value"] (defScope sIe) := ⟨rfl, rfl, rfl, by decide +kernel, rfl, by decide +kernel, by decide +kernel⟩
def spIe : Sp := fun vs H Q _ => ∃ v e, vs = [v] ∧ ExAt H v e ∧ wf e ∧ dep e ≤ N0 ∧ ∀ H', Same H H' → Q (.bl (!hasPl e)) H'
abbrev sCe : Stmt := top 9
theorem scCe : FnScope ["value", "placed"] ["value", "placed"] (defScope sCe) := ⟨rfl, rfl, rfl, by decide +kernel, rfl, by decide +kernel, by decide +kernel⟩
def spCe : Sp := fun vs H Q _ => ∃ v b e, vs = [v, .bl b] ∧ ExAt H v e ∧ wf e ∧ dep e ≤ N0 ∧ (b || !hasPl e) = true ∧ ∀ H', Same H H' → Q .non H'
abbrev sPi : Stmt := top 18
theorem scPi : FnScope pEw pEw (defScope sPi) := ⟨rfl, rfl, rfl, by decide +kernel, rfl, by decide +kernel, by decide +kernel⟩
def spPi : Sp := fun vs H Q _ => ∃ v u f e, vs = [v, u] ∧ ExAt H v f ∧ ExAt H u e ∧ wf f ∧ wf e ∧ hasPl f = true ∧ hasPl e = false ∧ dep f + dep e ≤ N0 ∧ ∀ y H', Same H H' → FL H' y (exT (put e f)) (nwA H H') → Q y H'
abbrev sJi : Stmt := top 21
theorem scJi : FnScope ["expression"] ["expression"] (defScope sJi) := ⟨rfl, rfl, rfl, by decide +kernel, rfl, by decide +kernel, by decide +kernel⟩
def spJi : Sp := fun vs H Q _ => ∃ v e, vs = [v] ∧ ExAt H v e ∧ wf e ∧ dep e ≤ N0 ∧ (lvs e).length ≤ 900 ∧ ∀ l L H', Same H H' → L.Nodup → (∀ x, x ∈ L ↔ x ∈ lvs e) → L.length ≤ (lvs e).length → H' l = some (.lst ((srtW L).map V.str)) → Q (.ref l) H'
abbrev sNs : Stmt := top 22
theorem scNs : FnScope ["expression"] ["expression"] (defScope sNs) := ⟨rfl, rfl, rfl, by decide +kernel, rfl, by decide +kernel, by decide +kernel⟩
section
variable {P : Program} {w : World} {K : PySem.W.Frag} {mg : Str → Option Value} {base : Heap} {f : Addr} {fd : FuncData}
theorem ok_io (F : FnP K "_is_open" sIo f fd) (GF : Got P w K mg base (N0 + 1) "has_expression_form" pHF (spHF N0)) (GP : Got P w K mg base (N0 + 1) "has_place" ["expression"] (spHP N0)) : FnOk P w K mg base CX0 (N0 + 2) f fd ["value"] spIo := by
  refine F.ok scIo (fun vs H Q E h => ?_) (fun cdv A outer s H vs Q E hr h => ?_)
  · obtain ⟨v, rfl, _⟩ := h
    rfl
  · obtain ⟨v, rfl, h⟩ := h
    refine ⟨_, PSs.nox (pss_one (ps_ret (pe_and (pe_got GF hr (pa_cons (pv 0) (pa_cons pe_bl pa_nil))) (pe_one (pe_got GP hr (pa_cons (pv 0) pa_nil)))))), ?_⟩
    rcases h with ⟨t, lt, ft, q⟩ | ⟨e, le, we, de, q⟩
    · exact ⟨_, rfl, v, true, t, false, rfl, lt, ft, fun H1 s1 => ⟨_, rfl, iteF (q H1 s1)⟩⟩
    · have := fm_ex (b := true) e N0 we de
      rw [Bool.true_or] at this
      exact ⟨_, rfl, v, true, _, true, rfl, le, this, fun H1 s1 => ⟨_, rfl, iteT ⟨_, rfl, v, e, rfl, le.same s1, we, de, fun H2 s2 => q H2 (s1.trans s2)⟩⟩⟩
theorem ok_ip (F : FnP K "is_open" sIp f fd) (G : Got P w K mg base (N0 + 2) "_is_open" ["value"] spIo) : FnOk P w K mg base CX0 (N0 + 3) f fd ["value"] spIo := by
  refine F.ok scIp (fun vs H Q E h => ?_) (fun cdv A outer s H vs Q E hr h => ?_)
  · obtain ⟨v, rfl, _⟩ := h
    rfl
  · obtain ⟨v, rfl, h⟩ := h
    exact ⟨_, PSs.nox (pss_one (ps_ret (pe_got G hr (pa_cons (pv 0) pa_nil)))), _, rfl, v, rfl, h⟩
theorem ok_ie (F : FnP K "is_expression" sIe f fd) (GF : Got P w K mg base (N0 + 1) "has_expression_form" pHF (spHF N0)) : FnOk P w K mg base CX0 (N0 + 2) f fd ["value"] spIe := by
  refine F.ok scIe (fun vs H Q E h => ?_) (fun cdv A outer s H vs Q E hr h => ?_)
  · obtain ⟨v, e, rfl, _⟩ := h
    rfl
  · obtain ⟨v, e, rfl, le, we, de, q⟩ := h
    have := fm_ex (b := false) e N0 we de
    rw [Bool.false_or] at this
    exact ⟨_, PSs.nox (pss_one (ps_ret (pe_got GF hr (pa_cons (pv 0) (pa_cons pe_bl pa_nil))))), _, rfl, v, false, _, _, rfl, le, this, q⟩
theorem ok_ce (F : FnP K "check_expression" sCe f fd) (GF : Got P w K mg base (N0 + 1) "has_expression_form" pHF (spHF N0)) : FnOk P w K mg base CX0 (N0 + 2) f fd ["value", "placed"] spCe := by
  refine F.ok scCe (fun vs H Q E h => ?_) (fun cdv A outer s H vs Q E hr h => ?_)
  · obtain ⟨v, b, e, rfl, _⟩ := h
    rfl
  · obtain ⟨v, b, e, rfl, le, we, de, ok, q⟩ := h
    have := fm_ex (b := b) e N0 we de
    rw [ok] at this
    exact ⟨_, PSs.nox (pss_one (ps_if (pt_not (pt_val (pe_got GF hr (pa_cons (pv 0) (pa_cons (pv 1) pa_nil))))) (pss_one ps_dead) pss_nil)), _, rfl, _, rfl, v, b, _, true, rfl, le, this, fun H1 s1 => ⟨_, rfl, iteF (q H1 s1)⟩⟩
theorem ok_pi (F : FnP K "put_in" sPi f fd) (GO : Got P w K mg base (N0 + 2) "_is_open" ["value"] spIo) (GC : Got P w K mg base (N0 + 2) "check_expression" ["value", "placed"] spCe) (GW : Got P w K mg base (N0 + 1) "expression_with" pEw (spEw N0)) : FnOk P w K mg base CX0 (N0 + 3) f fd pEw spPi := by
  refine F.ok scPi (fun vs H Q E h => ?_) (fun cdv A outer s H vs Q E hr h => ?_)
  · obtain ⟨v, u, f, e, rfl, _⟩ := h
    rfl
  · obtain ⟨v, u, f, e, rfl, lf, le, wF, we, pf, pe, d, q⟩ := h
    refine ⟨_, PSs.nox (pss_cons (ps_if (pt_not (pt_val (pe_got GO hr (pa_cons (pv 0) pa_nil)))) (pss_one ps_dead) pss_nil)
      (pss_cons (ps_expr (pe_got GC hr (pa_cons (pv 1) (pa_cons pe_bl pa_nil)))) (pss_one (ps_ret (pe_got GW hr (pa_cons (pv 0) (pa_cons (pv 1) pa_nil))))))), ?_⟩
    refine ⟨_, rfl, v, rfl, .inr ⟨f, lf, wF, by omega, fun H1 s1 => ⟨_, rfl, ?_⟩⟩⟩
    rw [pf]
    refine iteF ⟨_, rfl, u, false, e, rfl, le.same s1, we, by omega, by rw [pe]; rfl, fun H2 s2 => ?_⟩
    have s12 := s1.trans s2
    refine ⟨_, rfl, _, rfl, v, u, f, e, rfl, lf.same s12, le.same s12, wF, we, pe, by omega, fun _ => d, fun y H3 s3 l3 => q y H3 (s12.trans s3) (l3.mono fun b z => ⟨?_, z.2⟩)⟩
    exact s12.free z.1
theorem ok_ji (F : FnP K "jobs_in" sJi f fd) (GC : Got P w K mg base (N0 + 2) "check_expression" ["value", "placed"] spCe) (GL : Got P w K mg base (N0 + 1) "leaves_of" ["expression"] (spLv N0)) (mSe : mg "set" = none) (mSo : mg "sorted" = none) : FnOk P w K mg base CX0 (N0 + 3) f fd ["expression"] spJi := by
  refine F.ok scJi (fun vs H Q E h => ?_) (fun cdv A outer s H vs Q E hr h => ?_)
  · obtain ⟨v, e, rfl, _⟩ := h
    rfl
  · obtain ⟨v, e, rfl, le, we, de, ll, q⟩ := h
    have hu := hr.units
    refine ⟨_, PSs.nox (pss_cons (ps_expr (pe_got GC hr (pa_cons (pv 0) (pa_cons pe_bl pa_nil))))
      (pss_one (ps_ret (pe_callB (cr_sortedX rfl hu) (by rfl) mSo (by decide +kernel) (pa_cons (pe_callTy (cr_setX rfl) (by rfl) mSe (by decide +kernel) (pa_cons (pe_got GL hr (pa_cons (pv 0) pa_nil)) pa_nil)) pa_nil))))), ?_⟩
    refine ⟨_, rfl, v, true, e, rfl, le, we, de, rfl, fun H1 s1 => ?_⟩
    refine ⟨_, rfl, v, e, rfl, le.same s1, we, de, ll, fun l H2 s2 _ gl => ?_⟩
    refine ⟨l, lvs e, rfl, SqL.of gl, ll, fun p L hp nd mem few => ?_⟩
    refine ⟨p, L, rfl, upd_same, by omega, fun p2 hp2 => ?_⟩
    exact q p2 L _ (s1.trans (s2.trans ((same_put hp).trans (same_put hp2)))) nd mem few upd_same
theorem ok_ns (F : FnP K "nesting" sNs f fd) (GC : Got P w K mg base (N0 + 2) "check_expression" ["value", "placed"] spCe) (GN : Got P w K mg base (N0 + 1) "nesting_of" ["expression"] (spNe N0)) : FnOk P w K mg base CX0 (N0 + 3) f fd ["expression"] (spNe N0) := by
  refine F.ok scNs (fun vs H Q E h => ?_) (fun cdv A outer s H vs Q E hr h => ?_)
  · obtain ⟨v, e, rfl, _⟩ := h
    rfl
  · obtain ⟨v, e, rfl, le, we, de, q⟩ := h
    refine ⟨_, PSs.nox (pss_cons (ps_expr (pe_got GC hr (pa_cons (pv 0) (pa_cons pe_bl pa_nil)))) (pss_one (ps_ret (pe_got GN hr (pa_cons (pv 0) pa_nil))))), ?_⟩
    exact ⟨_, rfl, v, true, e, rfl, le, we, de, rfl, fun H1 s1 => ⟨_, rfl, v, e, rfl, le.same s1, we, de, fun H2 s2 => q H2 (s1.trans s2)⟩⟩
end
end L2.K57
set_option Elab.async false
set_option linter.all false
set_option maxRecDepth 100000
set_option maxHeartbeats 4000000
namespace L2.K57
open PySem PySem.Spec PyProof.Rows L2.EV L2
/-! ### expressions as data -/
theorem Word.ok {x : Str} (h : Word x) : PyData.strOk x = true := by
  unfold PyData.strOk
  refine Array.all_eq_true_iff_forall_mem.mpr fun c hc => ?_
  have := h.2 c (by simpa using hc)
  exact decide_eq_true (by omega)
abbrev dWs (ws : List Str) : PyData := .list (ws.map PyData.str)
theorem lay_words : ∀ ws : List Str, (∀ w ∈ ws, Word w) → PyData.canLayAll0 (ws.map PyData.str) = true
  | [], _ => rfl
  | w :: ws, h => by
    rw [List.map_cons]
    show (PyData.strOk w && PyData.canLayAll0 (ws.map PyData.str)) = true
    rw [(h w List.mem_cons_self).ok, lay_words ws fun y hy => h y (List.mem_cons_of_mem _ hy)]
    rfl
theorem depth_words : ∀ ws : List Str, PyData.depthAll (ws.map PyData.str) = 0
  | [] => rfl
  | w :: ws => by
    rw [List.map_cons]
    show max 0 (PyData.depthAll (ws.map PyData.str)) = 0
    rw [depth_words ws]
    rfl
theorem shaped_words {ws : List Str} (h : ∀ w ∈ ws, Word w) : SeqAt.shaped (dWs ws) = true := by
  unfold SeqAt.shaped
  have e : PyData.depth (dWs ws) = 1 := by
    show PyData.depthAll (ws.map PyData.str) + 1 = 1
    rw [depth_words]
  rw [e]
  show (PyData.canLayAll0 (ws.map PyData.str) && _) = true
  rw [lay_words ws h]
  rfl
theorem dp_words {K : PySem.W.Frag} {H : Hp} : ∀ ws : List Str, DpAll K H (ws.map V.str) (ws.map PyData.str)
  | [] => .nil
  | w :: ws => .cons (.str w) (dp_words ws)
mutual
def dEx : Ex → PyData
  | .wd s => .str s
  | .pl => .tuple [.str "place"]
  | .ag e => .tuple [.str "again", dEx e]
  | .rw es => .tuple [.str "row", .list (dExs es)]
def dExs : List Ex → List PyData
  | [] => []
  | e :: es => dEx e :: dExs es
end
mutual
theorem ex_dp {K : PySem.W.Frag} {H : Hp} : ∀ {e : Ex} {v : V}, ExAt H v e → Dp K H v (dEx e)
  | .wd s, v, h => by
    rw [ex_wd h, dEx]
    exact .str s
  | .pl, v, h => by
    obtain ⟨a, rfl, ha⟩ := ex_pl h
    rw [dEx]
    exact .tup (SqT.of ha) (.cons (.str _) .nil)
  | .ag e, v, h => by
    obtain ⟨a, u, rfl, ha, hu⟩ := ex_ag h
    rw [dEx]
    exact .tup (SqT.of ha) (.cons (.str _) (.cons (ex_dp hu) .nil))
  | .rw es, v, h => by
    obtain ⟨a, l, us, rfl, ha, hl, hu⟩ := ex_rw h
    rw [dEx]
    exact .tup (SqT.of ha) (.cons (.str _) (.cons (.lst (SqL.of hl) (exs_dp hu)) .nil))
theorem exs_dp {K : PySem.W.Frag} {H : Hp} : ∀ {es : List Ex} {us : List V}, Lds H us (exTs es) → DpAll K H us (dExs es)
  | [], us, h => by
    cases h
    exact .nil
  | e :: es, us, h => by
    unfold exTs at h
    cases h with
    | cons h1 h2 => exact .cons (ex_dp h1) (exs_dp h2)
end
mutual
theorem lay_ex : ∀ {e : Ex}, wf e → PyData.canLay0 (dEx e) = true ∧ PyData.depth (dEx e) ≤ 2 * dep e
  | .wd s, w => by
    unfold wf at w
    rw [dEx, dep]
    exact ⟨w.ok, by simp [PyData.depth]⟩
  | .pl, _ => by
    rw [dEx, dep]
    exact ⟨by decide +kernel, by simp [PyData.depth, PyData.depthAll]⟩
  | .ag e, w => by
    unfold wf at w
    obtain ⟨a, b⟩ := lay_ex w
    rw [dEx, dep]
    have c : PyData.strOk "again" = true := by decide +kernel
    refine ⟨by simp [PyData.canLay0, PyData.canLayAll0, a, c], ?_⟩
    simp [PyData.depth, PyData.depthAll]
    omega
  | .rw es, w => by
    unfold wf at w
    obtain ⟨a, b⟩ := lays_ex w.2
    rw [dEx, dep]
    have c : PyData.strOk "row" = true := by decide +kernel
    refine ⟨by simp [PyData.canLay0, PyData.canLayAll0, a, c], ?_⟩
    simp [PyData.depth, PyData.depthAll]
    omega
theorem lays_ex : ∀ {es : List Ex}, wfs es → PyData.canLayAll0 (dExs es) = true ∧ PyData.depthAll (dExs es) ≤ 2 * deps es
  | [], _ => ⟨rfl, Nat.zero_le _⟩
  | e :: es, w => by
    unfold wfs at w
    obtain ⟨a, b⟩ := lay_ex w.1
    obtain ⟨c, d⟩ := lays_ex w.2
    rw [dExs, deps]
    refine ⟨?_, ?_⟩
    · show (PyData.canLay0 (dEx e) && PyData.canLayAll0 (dExs es)) = true
      rw [a, c]
      rfl
    · show max (PyData.depth (dEx e)) (PyData.depthAll (dExs es)) ≤ _
      omega
end
theorem shaped_ex {e : Ex} (w : wf e) (d : dep e ≤ 32) : SeqAt.shaped (dEx e) = true := by
  obtain ⟨a, b⟩ := lay_ex w
  unfold SeqAt.shaped
  rw [a, decide_eq_true (by omega)]
  rfl
def isPl : Ex → Bool
  | .pl => true
  | _ => false
theorem eqv_pl {e : Ex} : PyData.eqv (dEx e) (dEx .pl) = isPl e := by
  cases e with
  | wd s => simp [dEx, isPl, PyData.eqv]
  | pl => simp [dEx, isPl, PyData.eqv, PyData.eqvAll]
  | ag e => simp [dEx, isPl, PyData.eqv, PyData.eqvAll]
  | rw es => simp [dEx, isPl, PyData.eqv, PyData.eqvAll]
/-! ### plain trees -/
inductive Pl : Nat → T → Prop
  | str {n : Nat} (s : Str) : Pl (n + 1) (.v (.str s))
  | tup {n : Nat} {ts : List T} : ts.length ≤ 900 → (∀ t ∈ ts, Pl n t) → Pl (n + 1) (.tup ts)
  | lst {n : Nat} {ts : List T} : ts.length ≤ 900 → (∀ t ∈ ts, Pl n t) → Pl (n + 1) (.lst ts)
theorem Pl.mono {n : Nat} {t : T} (h : Pl n t) : ∀ {m : Nat}, n ≤ m → Pl m t := by
  induction h with
  | str s =>
    intro m l
    obtain ⟨k, rfl⟩ : ∃ k, m = k + 1 := ⟨m - 1, by omega⟩
    exact .str s
  | tup a _ ih =>
    intro m l
    obtain ⟨k, rfl⟩ : ∃ k, m = k + 1 := ⟨m - 1, by omega⟩
    exact .tup a fun t ht => ih t ht (by omega)
  | lst a _ ih =>
    intro m l
    obtain ⟨k, rfl⟩ : ∃ k, m = k + 1 := ⟨m - 1, by omega⟩
    exact .lst a fun t ht => ih t ht (by omega)
mutual
theorem pl_ex : ∀ {e : Ex}, wf e → Pl (2 * dep e) (exT e)
  | .wd s, _ => by
    rw [dep, exT]
    exact .str s
  | .pl, _ => by
    rw [dep, exT]
    exact .tup (by decide) fun t ht => by
      rw [List.mem_singleton.mp ht]
      exact .str _
  | .ag e, w => by
    unfold wf at w
    have a := pl_ex w
    rw [dep, exT]
    refine .tup (n := 2 * dep e + 1) (by show 2 ≤ 900; decide) fun t ht => ?_
    rcases List.mem_cons.mp ht with rfl | ht
    · exact .str _
    · rw [List.mem_singleton.mp ht]
      exact a.mono (by omega)
  | .rw es, w => by
    unfold wf at w
    have a := pls_ex w.2
    rw [dep, exT]
    refine .tup (n := 2 * deps es + 1) (by show 2 ≤ 900; decide) fun t ht => ?_
    rcases List.mem_cons.mp ht with rfl | ht
    · exact .str _
    · rw [List.mem_singleton.mp ht]
      exact .lst (by rw [exTs_len]; omega) a
theorem pls_ex : ∀ {es : List Ex}, wfs es → ∀ t ∈ exTs es, Pl (2 * deps es) t
  | [], _, t, h => by
    unfold exTs at h
    cases h
  | e :: es, w, t, h => by
    unfold wfs at w
    unfold exTs at h
    have a := pl_ex w.1
    have b := pls_ex w.2
    rw [deps]
    rcases List.mem_cons.mp h with h | h
    · rw [h]
      exact a.mono (by omega)
    · exact (b t h).mono (by omega)
end
theorem alk_two {n : Nat} {t : T} (h : Pl n t) : ∀ {H : Hp} {x y : V}, Laid H x t → Laid H y t → Alk H n x y := by
  induction h with
  | str s =>
    intro H x y a b
    cases a
    cases b
    exact .flat rfl
  | tup l _ ih =>
    intro H x y a b
    cases a with
    | tup a1 a2 =>
      cases b with
      | tup b1 b2 =>
        have e1 := a2.length
        have e2 := b2.length
        refine .tup a1 b1 (by omega) (by omega) fun i u v p q => ?_
        obtain ⟨t, ht, lu⟩ := a2.at p
        obtain ⟨t', ht', lv⟩ := b2.at q
        rw [ht] at ht'
        cases ht'
        exact ih t (List.mem_of_getElem? ht) lu lv
  | lst l _ ih =>
    intro H x y a b
    cases a with
    | lst a1 a2 =>
      cases b with
      | lst b1 b2 =>
        have e1 := a2.length
        have e2 := b2.length
        refine .lst a1 b1 (by omega) (by omega) fun i u v p q => ?_
        obtain ⟨t, ht, lu⟩ := a2.at p
        obtain ⟨t', ht', lv⟩ := b2.at q
        rw [ht] at ht'
        cases ht'
        exact ih t (List.mem_of_getElem? ht) lu lv
/-! ### a list that grows by new things -/
theorem nw_upd {H1 H2 : Hp} {D : Addr} {o : HO} (h : H1 D ≠ none) : nw H1 (upd H2 D o) = nw H1 H2 := by
  funext b
  unfold nw
  by_cases e : b = D
  · rw [e]
    cases q : H1 D with
    | none => exact absurd q h
    | some u => rfl
  · rw [upd_ne e]
theorem nw_sub {H1 H' H2 : Hp} (up : ∀ b, H1 b ≠ none → H' b ≠ none) : Same (nw H' H2) (nw H1 H2) := fun b o e => by
  obtain ⟨a, c⟩ := nw_some e
  refine nw_of ?_ c
  cases q : H1 b with
  | none => rfl
  | some u => exact absurd a (up b (by rw [q]; exact fun z => by cases z))
/-- the list at D, made of new things since H1 -/
structure Gro (H H1 H' : Hp) (D : Addr) (ts : List T) : Prop where
  ex : ∃ zs, zs.length = ts.length ∧ H' D = some (.lst zs) ∧ Lds (nw H1 H') zs ts
  keep : Same H H'
  up : ∀ b, H1 b ≠ none → H' b ≠ none
theorem Gro.nil {H : Hp} {D : Addr} (hD : H D = none) : Gro H (upd H D (.lst [])) (upd H D (.lst [])) D [] := ⟨⟨[], rfl, upd_same, .nil⟩, same_put hD, fun _ h => h⟩
theorem Gro.step {H H' H2 : Hp} {D : Addr} {ts : List T} {y : V} {t : T} (hD : H D = none) (g : Gro H (upd H D (.lst [])) H' D ts) (few : ts.length ≤ 900) (s : Same H' H2) (l : Laid (nw H' H2) y t) :
    ∃ acc, H2 D = some (.lst acc) ∧ acc.length < sizeLine ∧ Gro H (upd H D (.lst [])) (upd H2 D (.lst (acc ++ [y]))) D (ts ++ [t]) := by
  obtain ⟨zs, lz, gD, lds⟩ := g.ex
  have h1 : upd H D (.lst []) D ≠ none := by rw [upd_same]; exact fun z => by cases z
  refine ⟨zs, s _ _ gD, small1000 (by omega), ⟨zs ++ [y], by rw [List.length_append, List.length_append, lz]; rfl, upd_same, ?_⟩, fun c o e => ?_, fun b h => ?_⟩
  · rw [nw_upd h1]
    exact (lds.same (nw_right s)).append (.cons (l.same (nw_sub g.up)) .nil)
  · rw [upd_ne (ne_of_none e hD)]
    exact s _ _ (g.keep _ _ e)
  · by_cases e : b = D
    · rw [e, upd_same]
      exact fun z => by cases z
    · rw [upd_ne e]
      exact fun z => g.up b h (s.free z)
theorem Gro.fin {H H' : Hp} {D : Addr} {ts : List T} (hD : H D = none) (g : Gro H (upd H D (.lst [])) H' D ts) : ∃ zs, H' D = some (.lst zs) ∧ Lds (nw H H') zs ts ∧ zs.length = ts.length := by
  obtain ⟨zs, lz, gD, lds⟩ := g.ex
  exact ⟨zs, gD, lds.same (nw_left (same_put hD)), lz⟩
/-! ### a copy -/
abbrev sSm : Stmt := top 29
abbrev nSm : List Str := ["_law_thing", "_law_key", "_law_item"]
theorem scSm : FnScope nSm ["_law_thing"] (defScope sSm) := ⟨rfl, rfl, rfl, by decide +kernel, rfl, by decide +kernel, by decide +kernel⟩
def spSm (n : Nat) : Sp := fun vs H Q _ => ∃ v t, vs = [v] ∧ Laid H v t ∧ Pl n t ∧ ∀ y H', Same H H' → Laid (nw H H') y t → Q y H'
section
variable {P : Program} {w : World} {K : PySem.W.Frag} {mg : Str → Option Value} {base : Heap} {f : Addr} {fd : FuncData}
theorem ok_sm_step {n : Nat} (F : FnP K "_law_same" sSm f fd) (G : Got P w K mg base (n + 1) "_law_same" ["_law_thing"] (spSm n)) (mIs : mg "isinstance" = none) (mD : mg "dict" = none) (mLi : mg "list" = none) (mT : mg "tuple" = none) :
    FnOk P w K mg base CX0 (n + 2) f fd ["_law_thing"] (spSm (n + 1)) := by
  refine F.ok scSm (fun vs H Q E h => ?_) (fun cdv A outer s H vs Q E hr h => ?_)
  · obtain ⟨v, t, rfl, _⟩ := h
    rfl
  · obtain ⟨v, t, rfl, hv, ht, q⟩ := h
    refine ⟨_, PSs.nox (pss_cons (ps_if (pt_val (pe_callB call_isi (by rfl) mIs (by decide +kernel) (pa_cons (pv 0) (pa_cons (pe_bltn (v := .ty "dict") (u := .type "dict") (by rfl) mD (by decide +kernel) rfl) pa_nil)))) (pss_one ps_dead) pss_nil)
      (pss_cons (ps_if (pt_val (pe_callB call_isi (by rfl) mIs (by decide +kernel) (pa_cons (pv 0) (pa_cons (pe_bltn (v := .ty "list") (u := .type "list") (by rfl) mLi (by decide +kernel) rfl) pa_nil))))
        (pss_one (ps_ret (pe_lc (own := [("_law_item", 2)]) (g := gName 2) (tt := tYes) (by rfl) scSm.nd (pi_list (pv 0)) (blkOk_by (own := [("_law_item", 2)]) (N := nSm) (sc := defScope sSm) (by decide +kernel))
          (fun _ _ _ _ _ => pg_name (i := 2) scSm.nd rfl (Or.inl rfl)) (fun _ _ _ _ _ => pts_nil) (fun _ _ _ _ _ => pe_got G hr (pa_cons (pv 2) pa_nil) (by rfl) (Nat.le_refl _))))) pss_nil)
      (pss_one (ps_ret (pe_ifExp (pt_val (pe_callB call_isi (by rfl) mIs (by decide +kernel) (pa_cons (pv 0) (pa_cons (pe_bltn (v := .ty "tuple") (u := .type "tuple") (by rfl) mT (by decide +kernel) rfl) pa_nil))))
        (pe_callTy call_tuple_of (by rfl) mT (by decide +kernel) (pa_cons (pe_lc (own := [("_law_item", 2)]) (g := gName 2) (tt := tYes) (by rfl) scSm.nd (pi_tup (pv 0)) (blkOk_by (own := [("_law_item", 2)]) (N := nSm) (sc := defScope sSm) (by decide +kernel))
          (fun _ _ _ _ _ => pg_name (i := 2) scSm.nd rfl (Or.inl rfl)) (fun _ _ _ _ _ => pts_nil) (fun _ _ _ _ _ => pe_got G hr (pa_cons (pv 2) pa_nil) (by rfl) (Nat.le_refl _))) pa_nil)) (pv 0)))))), ?_⟩
    cases ht with
    | str s =>
      cases hv
      refine ⟨_, rfl, .str s, .ty "dict", _, _, false, rfl, .ty _, .base (.str s), kit_ty (by decide +kernel), _, rfl, iteF ?_⟩
      refine ⟨_, rfl, .str s, .ty "list", _, _, false, rfl, .ty _, .base (.str s), kit_ty (by decide +kernel), _, rfl, iteF ?_⟩
      refine ⟨_, rfl, .str s, .ty "tuple", _, _, false, rfl, .ty _, .base (.str s), kit_ty (by decide +kernel), _, rfl, iteF ?_⟩
      exact ⟨_, rfl, q _ H (fun _ _ e => e) (.v _)⟩
    | @lst _ ts lt ht =>
      cases hv with
      | @lst a xs _ ha lx =>
        have len := lx.length
        refine ⟨_, rfl, .ref a, .ty "dict", _, _, false, rfl, .ty _, .base (.lst ha), kit_ty (by decide +kernel), _, rfl, iteF ?_⟩
        refine ⟨_, rfl, .ref a, .ty "list", _, _, true, rfl, .ty _, .base (.lst ha), kit_ty (by decide +kernel), _, rfl, iteT ?_⟩
        refine ⟨_, rfl, a, rfl, ⟨_, SqL.of ha⟩, fun D hD => ?_⟩
        refine lc_list (K := K) (a := a) (xs := xs) (fun i H' => Gro H (upd H D (.lst [])) H' D (ts.take i)) (.nil hD) (fun i H' _ g => SqL.of (g.keep _ _ ha)) ?_ ?_
        · rintro i y H' hy g
          obtain ⟨t, et, lt'⟩ := lx.at hy
          refine ⟨rfl, ?_⟩
          dsimp only [tYes]
          rw [if_pos rfl]
          refine ⟨_, rfl, y, t, rfl, lt'.same g.keep, ht t (List.mem_of_getElem? et), fun y' H2 s2 l2 => ?_⟩
          rw [List.take_succ, et]
          exact g.step hD (by rw [List.length_take]; omega) s2 l2
        · rintro H2 g
          rw [← len, List.take_length] at g
          obtain ⟨zs, gD, ll, _⟩ := g.fin hD
          exact q _ H2 g.keep (.lst (nw_of hD gD) ll)
    | @tup _ ts lt ht =>
      cases hv with
      | @tup a xs _ ha lx =>
        have len := lx.length
        refine ⟨_, rfl, .ref a, .ty "dict", _, _, false, rfl, .ty _, .base (.tup ha), kit_ty (by decide +kernel), _, rfl, iteF ?_⟩
        refine ⟨_, rfl, .ref a, .ty "list", _, _, false, rfl, .ty _, .base (.tup ha), kit_ty (by decide +kernel), _, rfl, iteF ?_⟩
        refine ⟨_, rfl, .ref a, .ty "tuple", _, _, true, rfl, .ty _, .base (.tup ha), kit_ty (by decide +kernel), _, rfl, iteT ?_⟩
        refine ⟨_, rfl, a, rfl, ⟨_, SqT.of ha⟩, fun D hD => ?_⟩
        refine lc_tup (K := K) (a := a) (xs := xs) (fun i H' => Gro H (upd H D (.lst [])) H' D (ts.take i)) (.nil hD) (fun i H' _ g => SqT.of (g.keep _ _ ha)) ?_ ?_
        · rintro i y H' hy g
          obtain ⟨t, et, lt'⟩ := lx.at hy
          refine ⟨rfl, ?_⟩
          dsimp only [tYes]
          rw [if_pos rfl]
          refine ⟨_, rfl, y, t, rfl, lt'.same g.keep, ht t (List.mem_of_getElem? et), fun y' H2 s2 l2 => ?_⟩
          rw [List.take_succ, et]
          exact g.step hD (by rw [List.length_take]; omega) s2 l2
        · rintro H2 g
          rw [← len, List.take_length] at g
          obtain ⟨zs, gD, ll, _⟩ := g.fin hD
          refine ⟨D, zs, rfl, .inl ⟨SqL.of gD, fun p hp => ?_⟩⟩
          have s3 := same_put (o := .tup zs) hp
          exact q _ _ (g.keep.trans s3) (.tup (nw_of (g.keep.free hp) upd_same) (ll.same (nw_right s3)))
end
end L2.K57
set_option Elab.async false
set_option linter.all false
set_option maxRecDepth 100000
set_option maxHeartbeats 4000000
namespace L2.K57
open PySem PySem.Spec PyProof.Rows L2.EV L2
/-! ### the law's own put -/
theorem eq_pl {K : PySem.W.Frag} {H : Hp} {Q : VK} {v : V} {e : Ex} {a : Addr} (h : ExAt H v e) (w : wf e) (d : dep e ≤ 32) (ha : H a = some (.tup [.str "place"])) (q : Q (.bl (isPl e)) H) : rEqD K v (.ref a) H Q := by
  refine ⟨dEx e, dEx .pl, ex_dp h, ?_, shaped_ex w d, by decide +kernel, ?_⟩
  · rw [dEx]
    exact .tup (SqT.of ha) (.cons (.str _) .nil)
  · rw [eqv_pl]
    exact q
abbrev sPt : Stmt := top 35
abbrev pPt : List Str := ["_law_frame", "_law_expression_here"]
abbrev nPt : List Str := ["_law_frame", "_law_expression_here", "_law_part"]
theorem scPt : FnScope nPt pPt (defScope sPt) := ⟨rfl, rfl, rfl, by decide +kernel, rfl, by decide +kernel, by decide +kernel⟩
def spPt (n : Nat) : Sp := fun vs H Q _ => ∃ v u f e, vs = [v, u] ∧ ExAt H v f ∧ ExAt H u e ∧ wf f ∧ wf e ∧ dep f ≤ n ∧ dep f ≤ 32 ∧ dep e ≤ 12 ∧ ∀ y H', Same H H' → Laid (nw H H') y (exT (put e f)) → Q y H'
/-! ### the law's own leaves -/
abbrev sLl : Stmt := top 36
abbrev nLl : List Str := ["_law_expression_here", "_law_found", "_law_part"]
theorem scLl : FnScope nLl ["_law_expression_here"] (defScope sLl) := ⟨rfl, rfl, rfl, by decide +kernel, rfl, by decide +kernel, by decide +kernel⟩
def spLl (n : Nat) : Sp := fun vs H Q _ => ∃ v e, vs = [v] ∧ ExAt H v e ∧ wf e ∧ dep e ≤ n ∧ dep e ≤ 32 ∧ (lvs e).length ≤ 900 ∧ ∀ l H', Same H H' → H l = none → H' l = some (.lst ((lvs e).map V.str)) → Q (.ref l) H'
/-! ### the law's own nesting -/
abbrev sLn : Stmt := top 37
abbrev nLn : List Str := ["_law_expression_here", "_law_part"]
theorem scLn : FnScope nLn ["_law_expression_here"] (defScope sLn) := ⟨rfl, rfl, rfl, by decide +kernel, rfl, by decide +kernel, by decide +kernel⟩
def spLn (n : Nat) : Sp := fun vs H Q _ => ∃ v e, vs = [v] ∧ ExAt H v e ∧ wf e ∧ dep e ≤ n ∧ dep e ≤ 32 ∧ ∀ H', Same H H' → Q (.int (nst e : Nat)) H'
section
variable {P : Program} {w : World} {K : PySem.W.Frag} {mg : Str → Option Value} {base : Heap} {f : Addr} {fd : FuncData}
theorem ok_pt_step {n : Nat} (F : FnP K "_law_put" sPt f fd) (G : Got P w K mg base (n + 26) "_law_put" pPt (spPt n)) (GS : Got P w K mg base 25 "_law_same" ["_law_thing"] (spSm 24)) (mIs : mg "isinstance" = none) (mS : mg "str" = none) :
    FnOk P w K mg base CX0 (n + 27) f fd pPt (spPt (n + 1)) := by
  refine F.ok scPt (fun vs H Q E h => ?_) (fun cdv A outer s H vs Q E hr h => ?_)
  · obtain ⟨v, u, f, e, rfl, _⟩ := h
    rfl
  · obtain ⟨v, u, f, x, rfl, hv, hu', wF, wx, df, d32, dx, q⟩ := h
    have hu := hr.units
    have k25 : 25 ≤ n + 26 := by omega
    refine ⟨_, PSs.nox (pss_cons (ps_if (pt_cmpR (op_eqD hu) (pv 0) (pe_tup (pa_cons pe_str pa_nil)) (nomark _)) (pss_one (ps_ret (pe_got GS hr (pa_cons (pv 1) pa_nil) (by rfl) k25))) pss_nil)
      (pss_cons (ps_if (pt_val (pe_callB call_isi (by rfl) mIs (by decide +kernel) (pa_cons (pv 0) (pa_cons (pe_bltn (v := .ty "str") (u := .type "str") (by rfl) mS (by decide +kernel) rfl) pa_nil)))) (pss_one (ps_ret (pv 0))) pss_nil)
      (pss_cons (ps_if (pt_cmpR op_eq (pe_ix ix_tup (pv 0) pe_int (fun _ _ => rfl)) pe_str (nomark _)) (pss_one (ps_ret (pe_tup (pa_cons pe_str (pa_cons (pe_got G hr (pa_cons (pe_ix ix_tup (pv 0) pe_int (fun _ _ => rfl)) (pa_cons (pv 1) pa_nil)) (by rfl) (Nat.le_refl _)) pa_nil))))) pss_nil)
      (pss_one (ps_ret (pe_tup (pa_cons pe_str (pa_cons
        (pe_lc (own := [("_law_part", 2)]) (g := gName 2) (tt := tYes) (by rfl) scPt.nd (pi_list (pe_ix ix_tup (pv 0) pe_int (fun _ _ => rfl))) (blkOk_by (own := [("_law_part", 2)]) (N := nPt) (sc := defScope sPt) (by decide +kernel))
          (fun _ _ _ _ _ => pg_name (i := 2) scPt.nd rfl (Or.inl rfl)) (fun _ _ _ _ _ => pts_nil) (fun _ _ _ _ _ => pe_got G hr (pa_cons (pv 2) (pa_cons (pv 1) pa_nil)) (by rfl) (Nat.le_refl _))) pa_nil)))))))), ?_⟩
    refine ⟨_, rfl, (by show 1 ≤ sizeLine; decide), fun p0 hp0 => ?_⟩
    obtain ⟨H1, e1, s1, g1⟩ : ∃ H1, H1 = upd H p0 (.tup [.str "place"]) ∧ Same H H1 ∧ H1 p0 = some (.tup [.str "place"]) := ⟨_, rfl, same_upd hp0, upd_same⟩
    rw [← e1]
    clear e1
    have hv1 := hv.same s1
    have hu1 := hu'.same s1
    have q1 : ∀ y H', Same H1 H' → Laid (nw H1 H') y (exT (put x f)) → Q y H' := fun y H' s' l => q y H' (s1.trans s') (l.same (nw_left s1))
    refine eq_pl hv1 wF d32 g1 ?_
    cases f with
    | pl =>
      refine ⟨_, rfl, iteT ?_⟩
      rw [put] at q1
      exact ⟨_, rfl, u, exT x, rfl, hu1, (pl_ex wx).mono (by omega), q1⟩
    | wd s =>
      obtain rfl := ex_wd hv1
      refine ⟨_, rfl, iteF ?_⟩
      refine ⟨_, rfl, .str s, .ty "str", _, _, true, rfl, .ty _, .base (.str s), kit_ty (by decide +kernel), _, rfl, iteT ?_⟩
      refine ⟨_, rfl, q1 _ H1 (fun _ _ e => e) ?_⟩
      rw [put, exT]
      exact .v _
    | ag e =>
      obtain ⟨a, t, rfl, ha, ht⟩ := ex_ag hv1
      unfold wf at wF
      rw [dep] at df d32
      refine ⟨_, rfl, iteF ?_⟩
      refine ⟨_, rfl, .ref a, .ty "str", _, _, false, rfl, .ty _, .base (.tup ha), kit_ty (by decide +kernel), _, rfl, iteF ?_⟩
      refine ⟨_, rfl, a, _, _, .str "again", rfl, rfl, SqT.of ha, at0 _ _, rfl, ?_⟩
      rw [decide_eq_true rfl]
      refine ⟨_, rfl, iteT ?_⟩
      refine ⟨_, rfl, a, _, _, t, rfl, rfl, SqT.of ha, at1 _ _ _, _, rfl, t, u, e, x, rfl, ht, hu1, wF, wx, by omega, by omega, dx, fun y H2 s2 l => ⟨(by show 2 ≤ sizeLine; decide), fun p hp => ?_⟩⟩
      have s3 := same_put (o := .tup [.str "again", y]) hp
      refine q1 _ _ (s2.trans s3) ?_
      rw [put, exT]
      exact .tup (nw_of (s2.free hp) upd_same) (.cons (.v _) (.cons (l.same (nw_right s3)) .nil))
    | rw es =>
      obtain ⟨a, l, us, rfl, ha, hl, hus⟩ := ex_rw hv1
      unfold wf at wF
      rw [dep] at df d32
      have lus := lds_exlen hus
      refine ⟨_, rfl, iteF ?_⟩
      refine ⟨_, rfl, .ref a, .ty "str", _, _, false, rfl, .ty _, .base (.tup ha), kit_ty (by decide +kernel), _, rfl, iteF ?_⟩
      refine ⟨_, rfl, a, _, _, .str "row", rfl, rfl, SqT.of ha, at0 _ _, rfl, ?_⟩
      rw [decide_eq_false (by decide)]
      refine ⟨_, rfl, iteF ?_⟩
      refine ⟨_, rfl, a, _, _, .ref l, rfl, rfl, SqT.of ha, at1 _ _ _, l, rfl, ⟨_, SqL.of hl⟩, fun D hD => ?_⟩
      refine lc_list (K := K) (a := l) (xs := us) (fun i H' => Gro H1 (upd H1 D (.lst [])) H' D (((es.take i).map (put x)).map exT)) (.nil hD) (fun i H' _ g => SqL.of (g.keep _ _ hl)) ?_ ?_
      · rintro i y H' hy g
        obtain ⟨e, he, hye⟩ := lds_ex hus hy
        have me := List.mem_of_getElem? he
        have := deps_at me
        refine ⟨rfl, ?_⟩
        dsimp only [tYes]
        rw [if_pos rfl]
        refine ⟨_, rfl, _, rfl, y, u, e, x, rfl, hye.same g.keep, hu1.same g.keep, wfs_at wF.2 me, wx, by omega, by omega, dx, fun y' H2 s2 l2 => ?_⟩
        rw [List.take_succ, he, List.map_append, List.map_append]
        exact g.step hD (by rw [List.length_map, List.length_map, List.length_take]; omega) s2 l2
      · rintro H2 g
        rw [lus, List.take_length] at g
        obtain ⟨zs, gD, ll, _⟩ := g.fin hD
        refine ⟨(by show 2 ≤ sizeLine; decide), fun p hp => ?_⟩
        have s3 := same_put (o := .tup [.str "row", .ref D]) hp
        refine q1 _ _ (g.keep.trans s3) ?_
        rw [put, exT, exTs_map, puts_map]
        exact .tup (nw_of (g.keep.free hp) upd_same) (.cons (.v _) (.cons ((Laid.lst (nw_of hD gD) ll).same (nw_right s3)) .nil))
theorem ok_ll_step {n : Nat} (F : FnP K "_law_leaves" sLl f fd) (G : Got P w K mg base (n + 1) "_law_leaves" ["_law_expression_here"] (spLl n)) (mIs : mg "isinstance" = none) (mS : mg "str" = none) :
    FnOk P w K mg base CX0 (n + 2) f fd ["_law_expression_here"] (spLl (n + 1)) := by
  refine F.ok scLl (fun vs H Q E h => ?_) (fun cdv A outer s H vs Q E hr h => ?_)
  · obtain ⟨v, e, rfl, _⟩ := h
    rfl
  · obtain ⟨v, e, rfl, hv, we, de, d32, le, q⟩ := h
    have hu := hr.units
    refine ⟨_, PSs.nox (pss_cons (ps_if (pt_val (pe_callB call_isi (by rfl) mIs (by decide +kernel) (pa_cons (pv 0) (pa_cons (pe_bltn (v := .ty "str") (u := .type "str") (by rfl) mS (by decide +kernel) rfl) pa_nil)))) (pss_one (ps_ret (pe_lst (pa_cons (pv 0) pa_nil)))) pss_nil)
      (pss_cons (ps_if (pt_cmpR (op_eqD hu) (pv 0) (pe_tup (pa_cons pe_str pa_nil)) (nomark _)) (pss_one (ps_ret (pe_lst pa_nil))) pss_nil)
      (pss_cons (ps_set (i := 1) scLl.nd rfl (by first | exact Or.inl rfl | exact Or.inr rfl) (pe_lst pa_nil))
      (pss_cons (ps_for PassesOwn.never rfl (pi_list (pe_ifExp (pt_cmpR op_eq (pe_ix ix_tup (pv 0) pe_int (fun _ _ => rfl)) pe_str (nomark _)) (pe_ix ix_tup (pv 0) pe_int (fun _ _ => rfl)) (pe_lst (pa_cons (pe_ix ix_tup (pv 0) pe_int (fun _ _ => rfl)) pa_nil)))) (pg_name (i := 2) scLl.nd rfl (by first | exact Or.inl rfl | exact Or.inr rfl))
        (pss_one (ps_set (i := 1) scLl.nd rfl (by first | exact Or.inl rfl | exact Or.inr rfl) (pe_op op_cat (pv 1) (pe_got G hr (pa_cons (pv 2) pa_nil) (by rfl) (Nat.le_refl _))))))
      (pss_one (ps_ret (pv 1))))))), ?_⟩
    have rf : Same H H := fun _ _ e => e
    cases e with
    | wd s =>
      obtain rfl := ex_wd hv
      refine ⟨_, rfl, .str s, .ty "str", _, _, true, rfl, .ty _, .base (.str s), kit_ty (by decide +kernel), _, rfl, iteT ?_⟩
      exact ⟨_, rfl, (by show 1 ≤ sizeLine; decide), fun l hl => q l _ (same_upd hl) hl upd_same⟩
    | pl =>
      obtain ⟨a, rfl, ha⟩ := ex_pl hv
      refine ⟨_, rfl, .ref a, .ty "str", _, _, false, rfl, .ty _, .base (.tup ha), kit_ty (by decide +kernel), _, rfl, iteF ?_⟩
      refine ⟨_, rfl, (by show 1 ≤ sizeLine; decide), fun p0 hp0 => ?_⟩
      have s1 := same_upd (o := .tup [.str "place"]) hp0
      refine eq_pl (hv.same s1) we d32 upd_same ?_
      exact ⟨_, rfl, iteT ⟨(by show 0 ≤ sizeLine; decide), fun l hl => q l _ (s1.trans (same_upd hl)) (s1.free hl) upd_same⟩⟩
    | ag e =>
      obtain ⟨a, u, rfl, ha, hu2⟩ := ex_ag hv
      have we0 := we
      unfold wf at we
      have de0 := d32
      rw [dep] at de d32
      refine ⟨_, rfl, .ref a, .ty "str", _, _, false, rfl, .ty _, .base (.tup ha), kit_ty (by decide +kernel), _, rfl, iteF ?_⟩
      refine ⟨_, rfl, (by show 1 ≤ sizeLine; decide), fun p0 hp0 => ?_⟩
      have s1 := same_upd (o := .tup [.str "place"]) hp0
      refine eq_pl (hv.same s1) we0 de0 upd_same ?_
      refine ⟨_, rfl, iteF ⟨(by show 0 ≤ sizeLine; decide), fun l0 hl0' => ?_⟩⟩
      have hl0 := s1.free hl0'
      have s2 := same_upd (o := .lst []) hl0'
      have gl0' : upd (upd H p0 (.tup [.str "place"])) l0 (.lst []) l0 = some (.lst []) := upd_same
      have s12 := s1.trans s2
      generalize upd (upd H p0 (.tup [.str "place"])) l0 (.lst []) = H2 at s2 gl0' s12
      have ha2 := s12 _ _ ha
      refine ⟨_, rfl, a, _, _, .str "again", rfl, rfl, SqT.of ha2, at0 _ _, rfl, ?_⟩
      rw [decide_eq_false (by decide)]
      refine ⟨_, rfl, iteF ?_⟩
      refine ⟨_, rfl, a, _, _, u, rfl, rfl, SqT.of ha2, at1 _ _ _, (by show 1 ≤ sizeLine; decide), fun l hl => ?_⟩
      have s3 := same_upd (o := .lst [u]) hl
      have gl : upd H2 l (.lst [u]) l = some (.lst [u]) := upd_same
      have gl0 := s3 _ _ gl0'
      have s13 := s12.trans s3
      generalize upd H2 l (.lst [u]) = H3' at s3 gl gl0 s13
      refine ⟨l, rfl, ⟨_, SqL.of gl⟩, ?_⟩
      have hus : Lds H3' [u] (exTs [e]) := .cons (hu2.same s13) .nil
      have dp : ∀ f ∈ [e], dep f ≤ n ∧ dep f ≤ 32 := fun f hf => by
        rw [List.mem_singleton.mp hf]
        omega
      have wfs1 : wfs [e] := by
        unfold wfs
        exact ⟨we, by unfold wfs; trivial⟩
      have ev : lvss [e] = lvs (.ag e) := by
        rw [lvs, lvss, lvss, List.append_nil]
      have lus : [u].length = [e].length := rfl
      refine for_list (K := K) (a := l) (xs := [u]) (fun i σ H' => ∃ l1 v2, σ = [some (.ref a), some (.ref l1), v2] ∧ Same H3' H' ∧ H' l1 = some (.lst ((lvss (([e]).take i)).map V.str)) ∧ H l1 = none) ⟨l0, none, rfl, fun _ _ e => e, gl0, hl0⟩ (fun i σ H' _ ⟨_, _, _, sA, _⟩ => SqL.of (sA _ _ gl)) ?_ ?_
      · rintro i y σ H3 hy ⟨l1, v2, rfl, s3, g3, f1⟩
        obtain ⟨e9, he, hye⟩ := lds_ex hus hy
        have me := List.mem_of_getElem? he
        obtain ⟨d1, d2⟩ := dp e9 me
        have step : lvss (([e]).take (i + 1)) = lvss (([e]).take i) ++ lvs e9 := by
          rw [List.take_succ, he, lvss_flat, lvss_flat, List.map_append, List.flatten_append]
          simp
        have p1 : lvss ([e]) = lvss (([e]).take (i + 1)) ++ lvss (([e]).drop (i + 1)) := by
          rw [lvss_flat, lvss_flat, lvss_flat, ← List.flatten_append, ← List.map_append, List.take_append_drop]
        rw [step] at p1
        have lp := congrArg List.length p1
        rw [List.length_append, List.length_append] at lp
        have few := (show (lvss ([e])).length ≤ 900 by rw [ev]; exact le)
        refine ⟨_, rfl, _, rfl, y, e9, rfl, hye.same s3, wfs_at wfs1 me, d1, d2, by omega, fun l2 H4 s4 _ g4 => ?_⟩
        refine ⟨l1, l2, _, _, rfl, rfl, s4 _ _ g3, g4, (by rw [List.length_map, List.length_map, sizeLine_eq]; omega), fun p hp => ⟨p, _, rfl, s3.trans (s4.trans (same_put hp)), ?_, s13.free ((s3.trans s4).free hp)⟩⟩
        rw [upd_same, step, List.map_append]
      · rintro σ H3 ⟨l1, v2, rfl, s3, g3, f1⟩
        rw [lus, List.take_length] at g3
        exact ⟨_, rfl, q l1 H3 (s13.trans s3) f1 (by rw [← ev]; exact g3)⟩
    | rw es =>
      obtain ⟨a, l, us, rfl, ha, hl, hu2⟩ := ex_rw hv
      have we0 := we
      unfold wf at we
      have de0 := d32
      rw [dep] at de d32
      refine ⟨_, rfl, .ref a, .ty "str", _, _, false, rfl, .ty _, .base (.tup ha), kit_ty (by decide +kernel), _, rfl, iteF ?_⟩
      refine ⟨_, rfl, (by show 1 ≤ sizeLine; decide), fun p0 hp0 => ?_⟩
      have s1 := same_upd (o := .tup [.str "place"]) hp0
      refine eq_pl (hv.same s1) we0 de0 upd_same ?_
      refine ⟨_, rfl, iteF ⟨(by show 0 ≤ sizeLine; decide), fun l0 hl0' => ?_⟩⟩
      have hl0 := s1.free hl0'
      have s2 := same_upd (o := .lst []) hl0'
      have gl0 : upd (upd H p0 (.tup [.str "place"])) l0 (.lst []) l0 = some (.lst []) := upd_same
      have s13 := s1.trans s2
      generalize upd (upd H p0 (.tup [.str "place"])) l0 (.lst []) = H3' at s2 gl0 s13
      have ha2 := s13 _ _ ha
      refine ⟨_, rfl, a, _, _, .str "row", rfl, rfl, SqT.of ha2, at0 _ _, rfl, ?_⟩
      rw [decide_eq_true rfl]
      refine ⟨_, rfl, iteT ?_⟩
      have gl := s13 _ _ hl
      refine ⟨_, rfl, a, _, _, .ref l, rfl, rfl, SqT.of ha2, at1 _ _ _, l, rfl, ⟨_, SqL.of gl⟩, ?_⟩
      have hus := hu2.same s13
      have dp : ∀ f ∈ es, dep f ≤ n ∧ dep f ≤ 32 := fun f hf => by
        have := deps_at hf
        omega
      have wfs1 := we.2
      have ev : lvss es = lvs (.rw es) := by rw [lvs]
      have lus := lds_exlen hu2
      refine for_list (K := K) (a := l) (xs := us) (fun i σ H' => ∃ l1 v2, σ = [some (.ref a), some (.ref l1), v2] ∧ Same H3' H' ∧ H' l1 = some (.lst ((lvss ((es).take i)).map V.str)) ∧ H l1 = none) ⟨l0, none, rfl, fun _ _ e => e, gl0, hl0⟩ (fun i σ H' _ ⟨_, _, _, sA, _⟩ => SqL.of (sA _ _ gl)) ?_ ?_
      · rintro i y σ H3 hy ⟨l1, v2, rfl, s3, g3, f1⟩
        obtain ⟨e9, he, hye⟩ := lds_ex hus hy
        have me := List.mem_of_getElem? he
        obtain ⟨d1, d2⟩ := dp e9 me
        have step : lvss ((es).take (i + 1)) = lvss ((es).take i) ++ lvs e9 := by
          rw [List.take_succ, he, lvss_flat, lvss_flat, List.map_append, List.flatten_append]
          simp
        have p1 : lvss (es) = lvss ((es).take (i + 1)) ++ lvss ((es).drop (i + 1)) := by
          rw [lvss_flat, lvss_flat, lvss_flat, ← List.flatten_append, ← List.map_append, List.take_append_drop]
        rw [step] at p1
        have lp := congrArg List.length p1
        rw [List.length_append, List.length_append] at lp
        have few := (show (lvss (es)).length ≤ 900 by rw [ev]; exact le)
        refine ⟨_, rfl, _, rfl, y, e9, rfl, hye.same s3, wfs_at wfs1 me, d1, d2, by omega, fun l2 H4 s4 _ g4 => ?_⟩
        refine ⟨l1, l2, _, _, rfl, rfl, s4 _ _ g3, g4, (by rw [List.length_map, List.length_map, sizeLine_eq]; omega), fun p hp => ⟨p, _, rfl, s3.trans (s4.trans (same_put hp)), ?_, s13.free ((s3.trans s4).free hp)⟩⟩
        rw [upd_same, step, List.map_append]
      · rintro σ H3 ⟨l1, v2, rfl, s3, g3, f1⟩
        rw [lus, List.take_length] at g3
        exact ⟨_, rfl, q l1 H3 (s13.trans s3) f1 (by rw [← ev]; exact g3)⟩
end
end L2.K57
set_option Elab.async false
set_option linter.all false
set_option maxRecDepth 100000
set_option maxHeartbeats 4000000
namespace L2.K57
open PySem PySem.Spec PyProof.Rows L2.EV L2
/-! ### the law's own nesting -/
theorem PI.or {X : Cx} {tg e : Expr} {w1 w2 : TI} (a : PI X tg e w1) (b : PI X tg e w2) : PI X tg e (fun σ H R => w1 σ H R ∨ w2 σ H R) := ⟨fun pins s σ H R I h => h.elim (a.run pins s σ H R I) (b.run pins s σ H R I)⟩
abbrev sSp : Stmt := top 39
abbrev nSp : List Str := ["_law_thing", "_law_part"]
theorem scSp : FnScope nSp ["_law_thing"] (defScope sSp) := ⟨rfl, rfl, rfl, by decide +kernel, rfl, by decide +kernel, by decide +kernel⟩
def spSp (n : Nat) : Sp := fun vs H Q _ => ∃ v t S, vs = [v] ∧ FL H v t S ∧ Pl n t ∧ ∀ H', (∀ b o, ¬ S b → H b = some o → H' b = some o) → Q .non H'
section
variable {P : Program} {w : World} {K : PySem.W.Frag} {mg : Str → Option Value} {base : Heap} {f : Addr} {fd : FuncData}
theorem ok_ln_step {n : Nat} (F : FnP K "_law_nest" sLn f fd) (G : Got P w K mg base (n + 1) "_law_nest" ["_law_expression_here"] (spLn n)) (mIs : mg "isinstance" = none) (mS : mg "str" = none) (mM : mg "max" = none) :
    FnOk P w K mg base CX0 (n + 2) f fd ["_law_expression_here"] (spLn (n + 1)) := by
  refine F.ok scLn (fun vs H Q E h => ?_) (fun cdv A outer s H vs Q E hr h => ?_)
  · obtain ⟨v, e, rfl, _⟩ := h
    rfl
  · obtain ⟨v, e, rfl, hv, we, de, d32, q⟩ := h
    have hu := hr.units
    refine ⟨_, PSs.nox (pss_cons (ps_if (PW.pt (pw_or (pt_val (pe_callB call_isi (by rfl) mIs (by decide +kernel) (pa_cons (pv 0) (pa_cons (pe_bltn (v := .ty "str") (u := .type "str") (by rfl) mS (by decide +kernel) rfl) pa_nil)))) (pw_or1 (pt_cmpR (op_eqD hu) (pv 0) (pe_tup (pa_cons pe_str pa_nil)) (nomark _))))) (pss_one (ps_ret pe_int)) pss_nil)
      (pss_cons (ps_if (pt_cmpR op_eq (pe_ix ix_tup (pv 0) pe_int (fun _ _ => rfl)) pe_str (nomark _)) (pss_one (ps_ret (pe_op op_add pe_int (pe_got G hr (pa_cons (pe_ix ix_tup (pv 0) pe_int (fun _ _ => rfl)) pa_nil) (by rfl) (Nat.le_refl _))))) pss_nil)
      (pss_one (ps_ret (pe_callB (cr_max rfl) (by rfl) mM (by decide +kernel) (pa_cons (pe_op op_cat (pe_lst (pa_cons pe_int pa_nil))
        (pe_lc (own := [("_law_part", 1)]) (g := gName 1) (tt := tYes) (by rfl) scLn.nd (pi_list (pe_ix ix_tup (pv 0) pe_int (fun _ _ => rfl))) (blkOk_by (own := [("_law_part", 1)]) (N := nLn) (sc := defScope sLn) (by decide +kernel))
          (fun _ _ _ _ _ => pg_name (i := 1) scLn.nd rfl (Or.inl rfl)) (fun _ _ _ _ _ => pts_nil) (fun _ _ _ _ _ => pe_got G hr (pa_cons (pv 1) pa_nil) (by rfl) (Nat.le_refl _)))) pa_nil)))))), ?_⟩
    have rf : Same H H := fun _ _ e => e
    cases e with
    | wd s =>
      obtain rfl := ex_wd hv
      refine ⟨_, rfl, .str s, .ty "str", _, _, true, rfl, .ty _, .base (.str s), kit_ty (by decide +kernel), _, rfl, iteT (iteT ?_)⟩
      have := q H rf
      rw [nst] at this
      exact this
    | pl =>
      obtain ⟨a, rfl, ha⟩ := ex_pl hv
      refine ⟨_, rfl, .ref a, .ty "str", _, _, false, rfl, .ty _, .base (.tup ha), kit_ty (by decide +kernel), _, rfl, iteF ?_⟩
      refine ⟨_, rfl, (by show 1 ≤ sizeLine; decide), fun p0 hp0 => ?_⟩
      have s1 := same_upd (o := .tup [.str "place"]) hp0
      refine eq_pl (hv.same s1) we d32 upd_same ?_
      refine ⟨_, rfl, iteT ?_⟩
      have := q _ s1
      rw [nst] at this
      exact this
    | ag e =>
      have we0 := we
      have d0 := d32
      obtain ⟨a, u, rfl, ha, hu2⟩ := ex_ag hv
      unfold wf at we
      rw [dep] at de d32
      refine ⟨_, rfl, .ref a, .ty "str", _, _, false, rfl, .ty _, .base (.tup ha), kit_ty (by decide +kernel), _, rfl, iteF ?_⟩
      refine ⟨_, rfl, (by show 1 ≤ sizeLine; decide), fun p0 hp0 => ?_⟩
      have s1 := same_upd (o := .tup [.str "place"]) hp0
      refine eq_pl (hv.same s1) we0 d0 upd_same ?_
      have ha1 := s1 _ _ ha
      refine ⟨_, rfl, iteF ?_⟩
      refine ⟨_, rfl, a, _, _, .str "again", rfl, rfl, SqT.of ha1, at0 _ _, rfl, ?_⟩
      rw [decide_eq_true rfl]
      refine ⟨_, rfl, iteT ?_⟩
      refine ⟨_, rfl, a, _, _, u, rfl, rfl, SqT.of ha1, at1 _ _ _, u, e, rfl, hu2.same s1, we, by omega, by omega, fun H' s' => ⟨_, _, rfl, rfl, ?_⟩⟩
      have := q H' (s1.trans s')
      rw [nst] at this
      exact this
    | rw es =>
      have we0 := we
      have d0 := d32
      obtain ⟨a, l, us, rfl, ha, hl, hu2⟩ := ex_rw hv
      unfold wf at we
      rw [dep] at de d32
      have lus := lds_exlen hu2
      refine ⟨_, rfl, .ref a, .ty "str", _, _, false, rfl, .ty _, .base (.tup ha), kit_ty (by decide +kernel), _, rfl, iteF ?_⟩
      refine ⟨_, rfl, (by show 1 ≤ sizeLine; decide), fun p0 hp0 => ?_⟩
      have s1 := same_upd (o := .tup [.str "place"]) hp0
      refine eq_pl (hv.same s1) we0 d0 upd_same ?_
      refine ⟨_, rfl, iteF ?_⟩
      have ha1 := s1 _ _ ha
      refine ⟨_, rfl, a, _, _, .str "row", rfl, rfl, SqT.of ha1, at0 _ _, rfl, ?_⟩
      rw [decide_eq_false (by decide)]
      refine ⟨_, rfl, iteF ?_⟩
      refine ⟨(by show 1 ≤ sizeLine; decide), fun z0 hz0 => ?_⟩
      have s2 := same_upd (o := .lst [.int 0]) hz0
      have gz : upd (upd H p0 (.tup [.str "place"])) z0 (.lst [.int 0]) z0 = some (.lst [.int 0]) := upd_same
      have s12 := s1.trans s2
      generalize upd (upd H p0 (.tup [.str "place"])) z0 (.lst [.int 0]) = H2 at gz s12
      have ha2 := s12 _ _ ha
      have hl2 := s12 _ _ hl
      refine ⟨_, rfl, a, _, _, .ref l, rfl, rfl, SqT.of ha2, at1 _ _ _, l, rfl, ⟨_, SqL.of hl2⟩, fun D hD => ?_⟩
      refine lc_list (K := K) (a := l) (xs := us) (fun i H' => Same H2 H' ∧ H' D = some (.lst ((es.take i).map fun e => V.int (nst e : Nat)))) ⟨same_upd hD, upd_same⟩ (fun i H' _ ⟨sA, _⟩ => SqL.of (sA _ _ hl2)) ?_ ?_
      · rintro i x H' hx ⟨sA, gA⟩
        obtain ⟨e, he, hxe⟩ := lds_ex hu2 hx
        have me := List.mem_of_getElem? he
        have := deps_at me
        refine ⟨rfl, ?_⟩
        dsimp only [tYes]
        rw [if_pos rfl]
        refine ⟨_, rfl, x, e, rfl, hxe.same (s12.trans sA), wfs_at we.2 me, by omega, by omega, fun H2' s2 => ?_⟩
        refine ⟨_, s2 _ _ gA, small1000 (by rw [List.length_map, List.length_take]; omega), fun c o z => ?_, ?_⟩
        · rw [upd_ne (ne_of_none z hD)]
          exact s2 _ _ (sA _ _ z)
        · rw [upd_same, List.take_succ, he, List.map_append]
          rfl
      · rintro H3 ⟨sA, gA⟩
        rw [lus, List.take_length] at gA
        have eq : (es.map fun e => V.int (nst e : Nat)) = (es.map fun e => ((nst e : Nat) : Int)).map V.int := by
          rw [List.map_map]
          rfl
        rw [eq] at gA
        refine ⟨z0, D, _, _, rfl, rfl, sA _ _ gz, gA, (by rw [List.length_map, List.length_map, sizeLine_eq]; show 1 + _ ≤ _; omega), fun p hp => ?_⟩
        refine ⟨p, 0 :: (es.map fun e => ((nst e : Nat) : Int)), rfl, SqL.of upd_same, by simp, fun m hm hb => ?_⟩
        have fin := q _ (s12.trans (sA.trans (same_put (o := .lst ([V.int 0] ++ (es.map fun e => ((nst e : Nat) : Int)).map V.int)) hp)))
        rw [nst] at fin
        have up : (nsts es : Int) ≤ m := by
          have h0 : (0 : Int) ≤ m := hb 0 List.mem_cons_self
          obtain ⟨k, rfl⟩ := Int.eq_ofNat_of_zero_le h0
          have : nsts es ≤ k := nsts_le fun g hg => by
            have := hb _ (List.mem_cons_of_mem _ (List.mem_map.mpr ⟨g, hg, rfl⟩))
            omega
          omega
        have dn : m ≤ (nsts es : Int) := by
          rcases List.mem_cons.mp hm with rfl | hm
          · exact Int.natCast_nonneg _
          · obtain ⟨g, hg, rfl⟩ := List.mem_map.mp hm
            have := nsts_ge hg
            omega
        rw [show m = (nsts es : Int) by omega]
        exact fin
/-! ### spoilt -/
theorem ok_sp_step {n : Nat} (F : FnP K "_law_spoilt" sSp f fd) (G : Got P w K mg base (n + 1) "_law_spoilt" ["_law_thing"] (spSp n)) (mIs : mg "isinstance" = none) (mLi : mg "list" = none) (mT : mg "tuple" = none) :
    FnOk P w K mg base CX0 (n + 2) f fd ["_law_thing"] (spSp (n + 1)) := by
  refine F.ok scSp (fun vs H Q E h => ?_) (fun cdv A outer s H vs Q E hr h => ?_)
  · obtain ⟨v, t, S, rfl, _⟩ := h
    rfl
  · obtain ⟨v, t, S, rfl, hv, ht, q⟩ := h
    refine ⟨_, PSs.nox (pss_cons (ps_if (pt_val (pe_callB call_isiT (by rfl) mIs (by decide +kernel) (pa_cons (pv 0) (pa_cons (pe_tup (pa_cons (pe_bltn (v := .ty "list") (u := .type "list") (by rfl) mLi (by decide +kernel) rfl) (pa_cons (pe_bltn (v := .ty "tuple") (u := .type "tuple") (by rfl) mT (by decide +kernel) rfl) pa_nil))) pa_nil))))
        (pss_one (ps_for PassesOwn.never rfl (PI.or (pi_list (pv 0)) (pi_tup (pv 0))) (pg_name (i := 1) scSp.nd rfl (by first | exact Or.inl rfl | exact Or.inr rfl)) (pss_one (ps_expr (pe_got G hr (pa_cons (pv 1) pa_nil) (by rfl) (Nat.le_refl _)))))) pss_nil)
      (pss_one (ps_if (pt_val (pe_callB call_isi (by rfl) mIs (by decide +kernel) (pa_cons (pv 0) (pa_cons (pe_bltn (v := .ty "list") (u := .type "list") (by rfl) mLi (by decide +kernel) rfl) pa_nil))))
        (pss_one (ps_expr (pe_bm PySem.F.plainAttrs_list PySem.F.slot_list_append PySem.F.type_list_append mt_append (pv 0) (pa_cons pe_str pa_nil)))) pss_nil))), ?_⟩
    have kl : kitB "list" "list" = some true := by decide +kernel
    have kt : kitB "list" "tuple" = some false := by decide +kernel
    refine ⟨_, rfl, (by show 2 ≤ sizeLine; decide), fun tp htp => ?_⟩
    have s1 := same_upd (o := .tup [.ty "list", .ty "tuple"]) htp
    have g1 : upd H tp (.tup [.ty "list", .ty "tuple"]) tp = some (.tup [.ty "list", .ty "tuple"]) := upd_same
    generalize upd H tp (.tup [.ty "list", .ty "tuple"]) = H1 at s1 g1
    have hv1 := hv.same s1
    -- the parts, one after the other
    have part : ∀ {xs : List V} {ts : List T} {S' : Addr → Prop} {i : Nat} {x : V} {H' : Hp} {R : VK}, (∀ t ∈ ts, Pl n t) → xs[i]? = some x → (∃ Si, (∀ b, Si b → S' b) ∧ FLs H' (xs.drop i) (ts.drop i) Si) → (∀ H'', (∀ b o, ¬ S' b → H' b = some o → H'' b = some o) → (∃ Si, (∀ b, Si b → S' b) ∧ FLs H'' (xs.drop (i + 1)) (ts.drop (i + 1)) Si) → R .non H'') → spSp n [x] H' R E0 := by
      intro xs ts S' i x H' R pl hx ⟨Si, sub, fl⟩ q
      have e1 : xs.drop i = x :: xs.drop (i + 1) := by
        rw [List.drop_eq_getElem_cons (List.getElem?_eq_some_iff.mp hx).1, (List.getElem?_eq_some_iff.mp hx).2]
      have lt := fl.laid.length
      have hi := (List.getElem?_eq_some_iff.mp hx).1
      have e2 : ∃ t, t ∈ ts ∧ ts.drop i = t :: ts.drop (i + 1) := by
        have hi2 : i < ts.length := by
          rw [List.length_drop, List.length_drop] at lt
          omega
        exact ⟨ts[i], List.getElem_mem hi2, List.drop_eq_getElem_cons hi2⟩
      obtain ⟨t, mt, e2⟩ := e2
      rw [e1, e2] at fl
      cases fl with
      | @cons _ _ _ _ _ S1 S2 a b c d e =>
        refine ⟨x, t, S1, rfl, a, pl t mt, fun H'' k => q H'' (fun b o nb eb => k b o (fun z => nb (sub b (c b z))) eb) ⟨S2, fun b z => sub b (d b z), b.on fun u o z eu => k u o (fun y => e u y z) eu⟩⟩
    cases ht with
    | str s =>
      cases hv
      refine ⟨.str s, tp, _, .type "str", [.type "list", .type "tuple"], _, rfl, g1, .cons (.ty _) (.cons (.ty _) .nil), .base (.str s), any_tt (by decide +kernel : kitB "str" "list" = some false) (by decide +kernel : kitB "str" "tuple" = some false), _, rfl, iteF ?_⟩
      refine ⟨_, rfl, .str s, .ty "list", _, _, false, rfl, .ty _, .base (.str s), kit_ty (by decide +kernel), _, rfl, iteF ?_⟩
      exact q H1 fun b o _ e => s1 _ _ e
    | @lst _ ts few pl =>
      cases hv1 with
      | @lst a xs _ _ S' ha Sa nSa sub fl =>
        have len := fl.laid.length
        refine ⟨.ref a, tp, _, .type "list", [.type "list", .type "tuple"], _, rfl, g1, .cons (.ty _) (.cons (.ty _) .nil), .base (.lst ha), any_tt kl kt, _, rfl, iteT ?_⟩
        refine .inl ⟨_, rfl, a, rfl, ⟨_, SqL.of ha⟩, ?_⟩
        refine for_list (K := K) (a := a) (xs := xs) (fun i σ H' => (∃ v1, σ = [some (.ref a), v1]) ∧ (∀ b o, ¬ S' b → H1 b = some o → H' b = some o) ∧ ∃ Si, (∀ b, Si b → S' b) ∧ FLs H' (xs.drop i) (ts.drop i) Si) ⟨⟨_, rfl⟩, fun _ _ _ e => e, S', fun _ z => z, fl⟩ (fun i σ H' _ ⟨_, kp, _⟩ => SqL.of (kp _ _ nSa ha)) ?_ ?_
        · rintro i x σ H' hx ⟨⟨v1, rfl⟩, kp, fi⟩
          refine ⟨_, rfl, ?_⟩
          dsimp only [tNil]
          exact part pl hx fi fun H'' k f2 => ⟨⟨_, rfl⟩, fun b o nb e => k b o nb (kp b o nb e), f2⟩
        · rintro σ H' ⟨⟨v1, rfl⟩, kp, _⟩
          have ga := kp _ _ nSa ha
          refine ⟨_, rfl, .ref a, .ty "list", _, _, true, rfl, .ty _, .base (.lst ga), kit_ty kl, _, rfl, iteT ?_⟩
          refine ⟨_, rfl, .inl ⟨rfl, _, SqL.of ga⟩, a, xs, _, rfl, rfl, ga, small1000 (by omega), ?_⟩
          refine q _ fun b o nb e => ?_
          have nba : b ≠ a := fun z => nb (z ▸ Sa)
          rw [upd_ne nba]
          exact kp b o (fun z => nb (sub b z)) (s1 _ _ e)
    | @tup _ ts few pl =>
      cases hv1 with
      | @tup a xs _ _ S' ha Sa nSa sub fl =>
        have len := fl.laid.length
        refine ⟨.ref a, tp, _, .type "tuple", [.type "list", .type "tuple"], _, rfl, g1, .cons (.ty _) (.cons (.ty _) .nil), .base (.tup ha), any_tt (by decide +kernel : kitB "tuple" "list" = some false) (by decide +kernel : kitB "tuple" "tuple" = some true), _, rfl, iteT ?_⟩
        refine .inr ⟨_, rfl, a, rfl, ⟨_, SqT.of ha⟩, ?_⟩
        refine for_tup (K := K) (a := a) (xs := xs) (fun i σ H' => (∃ v1, σ = [some (.ref a), v1]) ∧ (∀ b o, ¬ S' b → H1 b = some o → H' b = some o) ∧ ∃ Si, (∀ b, Si b → S' b) ∧ FLs H' (xs.drop i) (ts.drop i) Si) ⟨⟨_, rfl⟩, fun _ _ _ e => e, S', fun _ z => z, fl⟩ (fun i σ H' _ ⟨_, kp, _⟩ => SqT.of (kp _ _ nSa ha)) ?_ ?_
        · rintro i x σ H' hx ⟨⟨v1, rfl⟩, kp, fi⟩
          refine ⟨_, rfl, ?_⟩
          dsimp only [tNil]
          exact part pl hx fi fun H'' k f2 => ⟨⟨_, rfl⟩, fun b o nb e => k b o nb (kp b o nb e), f2⟩
        · rintro σ H' ⟨⟨v1, rfl⟩, kp, _⟩
          have ga := kp _ _ nSa ha
          refine ⟨_, rfl, .ref a, .ty "list", _, _, false, rfl, .ty _, .base (.tup ga), kit_ty (by decide +kernel), _, rfl, iteF ?_⟩
          exact q _ fun b o nb e => kp b o (fun z => nb (sub b z)) (s1 _ _ e)
end
end L2.K57
set_option Elab.async false
set_option linter.all false
set_option maxRecDepth 100000
set_option maxHeartbeats 4000000
namespace L2.K57
open PySem PySem.Spec PyProof.Rows L2.EV L2
/-! ### how large an expression is -/
mutual
/-- its ends: words, places, empty rows -/
def tips : Ex → Nat
  | .wd _ => 1
  | .pl => 1
  | .ag e => tips e
  | .rw es => max 1 (tipss es)
def tipss : List Ex → Nat
  | [] => 0
  | e :: es => tips e + tipss es
end
mutual
def siz : Ex → Nat
  | .wd _ => 1
  | .pl => 1
  | .ag e => 1 + siz e
  | .rw es => 1 + sizs es
def sizs : List Ex → Nat
  | [] => 0
  | e :: es => siz e + sizs es
end
theorem tips_pos : ∀ e : Ex, 1 ≤ tips e
  | .wd _ => by rw [tips]; exact Nat.le_refl _
  | .pl => by rw [tips]; exact Nat.le_refl _
  | .ag e => by rw [tips]; exact tips_pos e
  | .rw es => by rw [tips]; exact Nat.le_max_left _ _
mutual
theorem lvs_tips : ∀ e : Ex, (lvs e).length ≤ tips e
  | .wd s => by rw [lvs, tips]; exact Nat.le_refl _
  | .pl => by rw [lvs, tips]; exact Nat.zero_le _
  | .ag e => by rw [lvs, tips]; exact lvs_tips e
  | .rw es => by rw [lvs, tips]; exact Nat.le_trans (lvss_tips es) (Nat.le_max_right _ _)
theorem lvss_tips : ∀ es : List Ex, (lvss es).length ≤ tipss es
  | [] => by rw [lvss, tipss]; exact Nat.le_refl _
  | e :: es => by
    rw [lvss, tipss, List.length_append]
    exact Nat.add_le_add (lvs_tips e) (lvss_tips es)
end
mutual
theorem tips_put {x : Ex} : ∀ e : Ex, tips (put x e) ≤ tips e * tips x
  | .wd s => by
    rw [put, tips, Nat.one_mul]
    exact tips_pos x
  | .pl => by
    rw [put, tips, Nat.one_mul]
    exact Nat.le_refl _
  | .ag e => by
    rw [put, tips, tips]
    exact tips_put e
  | .rw es => by
    rw [put, tips, tips]
    have h := tipss_put (x := x) es
    have p := tips_pos x
    refine Nat.max_le.mpr ⟨?_, ?_⟩
    · exact Nat.le_trans p (Nat.le_mul_of_pos_left _ (Nat.lt_of_lt_of_le Nat.zero_lt_one (Nat.le_max_left _ _)))
    · exact Nat.le_trans h (Nat.mul_le_mul_right _ (Nat.le_max_right _ _))
theorem tipss_put {x : Ex} : ∀ es : List Ex, tipss (puts x es) ≤ tipss es * tips x
  | [] => by
    rw [puts, tipss, Nat.zero_mul]
    exact Nat.le_refl _
  | e :: es => by
    rw [puts, tipss, tipss, Nat.add_mul]
    exact Nat.add_le_add (tips_put e) (tipss_put es)
end
/-! ### a list that grows by new things while a purse is drawn from -/
structure Grp (p : Addr) (H H1 H' : Hp) (D : Addr) (ts : List T) : Prop where
  ex : ∃ zs, zs.length = ts.length ∧ H' D = some (.lst zs) ∧ Lds (nw H1 H') zs ts
  keep : Old p H H'
  up : ∀ b, H1 b ≠ none → H' b ≠ none
theorem nw_oldp {p : Addr} {H H1 H2 : Hp} (hp : H p ≠ none) (o : Old p H1 H2) : Same (nw H H1) (nw H H2) := fun b u e => by
  obtain ⟨a, c⟩ := nw_some e
  exact nw_of a (o b u (fun z => hp (z ▸ a)) c)
theorem Grp.nil {p : Addr} {H : Hp} {D : Addr} (hD : H D = none) : Grp p H (upd H D (.lst [])) (upd H D (.lst [])) D [] := ⟨⟨[], rfl, upd_same, .nil⟩, .of_same (same_put hD), fun _ h => h⟩
theorem Grp.step {p : Addr} {H H' H2 : Hp} {D : Addr} {ts : List T} {y : V} {t : T} (hp : H p ≠ none) (hD : H D = none) (g : Grp p H (upd H D (.lst [])) H' D ts) (few : ts.length ≤ 900) (s : Old p H' H2) (su : ∀ b, H' b ≠ none → H2 b ≠ none) (l : Laid (nw H' H2) y t) :
    ∃ acc, H2 D = some (.lst acc) ∧ acc.length < sizeLine ∧ Grp p H (upd H D (.lst [])) (upd H2 D (.lst (acc ++ [y]))) D (ts ++ [t]) := by
  obtain ⟨zs, lz, gD, lds⟩ := g.ex
  have nDp : D ≠ p := fun z => hp (z ▸ hD)
  have h1 : upd H D (.lst []) D ≠ none := by rw [upd_same]; exact fun z => by cases z
  have hp1 : upd H D (.lst []) p ≠ none := by rw [upd_ne (Ne.symm nDp)]; exact hp
  refine ⟨zs, s _ _ nDp gD, small1000 (by omega), ⟨zs ++ [y], by rw [List.length_append, List.length_append, lz]; rfl, upd_same, ?_⟩, fun c o n e => ?_, fun b h => ?_⟩
  · rw [nw_upd h1]
    exact (lds.same (nw_oldp hp1 s)).append (.cons (l.same (nw_sub g.up)) .nil)
  · rw [upd_ne (ne_of_none e hD)]
    exact s _ _ n (g.keep _ _ n e)
  · by_cases e : b = D
    · rw [e, upd_same]
      exact fun z => by cases z
    · rw [upd_ne e]
      exact su b (g.up b h)
theorem Grp.fin {p : Addr} {H H' : Hp} {D : Addr} {ts : List T} (hD : H D = none) (g : Grp p H (upd H D (.lst [])) H' D ts) : ∃ zs, H' D = some (.lst zs) ∧ Lds (nw H H') zs ts ∧ zs.length = ts.length := by
  obtain ⟨zs, lz, gD, lds⟩ := g.ex
  exact ⟨zs, gD, lds.same (nw_left (same_put hD)), lz⟩
end L2.K57
set_option Elab.async false
set_option linter.all false
set_option maxRecDepth 100000
set_option maxHeartbeats 4000000
namespace L2.K57
open PySem PySem.Spec PyProof.Rows L2.EV L2
/-! ### a drawn expression -/
theorem old_up {p : Addr} {H H' : Hp} {n : Nat} (o : Old p H H') (q : PurseAt H' p n) : ∀ b, H b ≠ none → H' b ≠ none := fun b h => by
  by_cases e : b = p
  · obtain ⟨c, z, t, a, g, _⟩ := q
    rw [e, g]
    exact fun z => by cases z
  · cases u : H b with
    | none => exact absurd u h
    | some o' =>
      rw [o b o' e u]
      exact fun z => by cases z
theorem purse_some {p : Addr} {H : Hp} {n : Nat} (q : PurseAt H p n) : H p ≠ none := by
  obtain ⟨c, z, t, a, g, _⟩ := q
  rw [g]
  exact fun z => by cases z
structure Drw (m : Nat) (e : Ex) : Prop where
  w : wf e
  np : hasPl e = false
  d : dep e ≤ max 1 m
  t : tips e ≤ max 1 m
  z : siz e ≤ 4 ^ max 1 m
theorem drw_wd {m : Nat} {s : Str} (w : Word s) : Drw m (.wd s) := ⟨by unfold wf; exact w, by rw [hasPl], by rw [dep]; exact Nat.le_max_left _ _, by rw [tips]; exact Nat.le_max_left _ _, by rw [siz]; exact Nat.one_le_pow _ _ (by decide)⟩
theorem drw_ag {m : Nat} {e : Ex} (h2 : 2 ≤ m) (h : Drw (m - 1) e) : Drw m (.ag e) := by
  have e1 : max 1 (m - 1) = m - 1 := by omega
  have e2 : max 1 m = m := by omega
  obtain ⟨w, np, d, t, z⟩ := h
  rw [e1] at d t z
  refine ⟨by unfold wf; exact w, by rw [hasPl]; exact np, ?_, ?_, ?_⟩
  · rw [dep, e2]
    omega
  · rw [tips, e2]
    omega
  · rw [siz, e2]
    obtain ⟨k, rfl⟩ : ∃ k, m = k + 1 := ⟨m - 1, by omega⟩
    rw [Nat.add_sub_cancel] at z
    have : 1 ≤ 4 ^ k := Nat.one_le_pow _ _ (by decide)
    rw [Nat.pow_succ]
    omega
theorem drws {k : Nat} : ∀ {es : List Ex}, (∀ e ∈ es, Drw k e) → wfs es ∧ anyPl es = false ∧ deps es ≤ max 1 k ∧ tipss es ≤ es.length * max 1 k ∧ sizs es ≤ es.length * 4 ^ max 1 k
  | [], _ => ⟨by unfold wfs; trivial, by rw [anyPl], by rw [deps]; exact Nat.zero_le _, by rw [tipss]; exact Nat.zero_le _, by rw [sizs]; exact Nat.zero_le _⟩
  | e :: es, h => by
    obtain ⟨w, np, d, t, z⟩ := h e List.mem_cons_self
    obtain ⟨a, b, c, f, g⟩ := drws (es := es) fun f hf => h f (List.mem_cons_of_mem _ hf)
    refine ⟨by unfold wfs; exact ⟨w, a⟩, by rw [anyPl, np, b]; rfl, by rw [deps]; exact Nat.max_le.mpr ⟨d, c⟩, ?_, ?_⟩
    · rw [tipss, List.length_cons, Nat.add_mul, Nat.one_mul]
      omega
    · rw [sizs, List.length_cons, Nat.add_mul, Nat.one_mul]
      omega
theorem drw_rw {m many k : Nat} {es : List Ex} (h2 : 2 ≤ m) (hm : many ≤ 3) (hm2 : many ≤ m) (ek : k = m / max 2 many) (len : es.length = many) (h : ∀ e ∈ es, Drw k e) : Drw m (.rw es) := by
  obtain ⟨a, b, c, f, g⟩ := drws h
  have e2 : max 1 m = m := by omega
  have k1 : 1 ≤ k := by
    rw [ek]
    exact (Nat.le_div_iff_mul_le (by omega)).mpr (by omega)
  have kh : k ≤ m - 1 := by
    have : k ≤ m / 2 := by
      rw [ek]
      exact Nat.div_le_div_left (by omega) (by decide)
    omega
  have km : many * k ≤ m := by
    have : k * max 2 many ≤ m := by
      rw [ek]
      exact Nat.div_mul_le_self _ _
    refine Nat.le_trans ?_ this
    rw [Nat.mul_comm]
    exact Nat.mul_le_mul_left _ (by omega)
  have e1 : max 1 k = k := by omega
  rw [e1] at c f g
  rw [len] at f g
  refine ⟨by unfold wf; exact ⟨by omega, a⟩, by rw [hasPl]; exact b, ?_, ?_, ?_⟩
  · rw [dep, e2]
    omega
  · rw [tips, e2]
    exact Nat.max_le.mpr ⟨by omega, Nat.le_trans f km⟩
  · rw [siz, e2]
    obtain ⟨j, rfl⟩ : ∃ j, m = j + 1 := ⟨m - 1, by omega⟩
    have p1 : 4 ^ k ≤ 4 ^ j := Nat.pow_le_pow_right (by decide) (by omega)
    have p2 : 1 ≤ 4 ^ j := Nat.one_le_pow _ _ (by decide)
    have p3 : many * 4 ^ k ≤ 3 * 4 ^ j := Nat.mul_le_mul hm p1
    rw [Nat.pow_succ]
    omega
theorem and_dec {ta tb : TT} {σ : St} {H : Hp} {Q : Bool → Hp → Prop} {x y : Bool} (ha : ∀ Q' : Bool → Hp → Prop, Q' x H → ta σ H Q') (hb : ∀ Q' : Bool → Hp → Prop, Q' y H → tb σ H Q') (h : Q (x && y) H) : tAnd ta tb σ H Q := by
  refine ha _ ?_
  cases x with
  | true => exact iteT (hb _ h)
  | false => exact iteF h
theorem nx_and {ta tb : TT} {A E B : TS} {D D0 : Ends} {σ : St} {H : Hp} {x y : Bool} (ha : ∀ Q' : Bool → Hp → Prop, Q' x H → ta σ H Q') (hb : ∀ Q' : Bool → Hp → Prop, Q' y H → tb σ H Q')
    (h1 : (x && y) = true → A { D with nx := B D } σ H) (h2 : (x && y) = false → E { D with nx := B D } σ H) : tNext { D0 with nx := tSeq (tIfS (tAnd ta tb) A E) B D } σ H := by
  show tAnd ta tb σ H fun b H1 => if b = true then A { D with nx := B D } σ H1 else E { D with nx := B D } σ H1
  refine and_dec (x := x) (y := y) ha hb ?_
  show if (x && y) = true then A { D with nx := B D } σ H else E { D with nx := B D } σ H
  cases q : (x && y) with
  | true => exact iteT (h1 q)
  | false => exact iteF (h2 q)
abbrev sXp : Stmt := top 33
abbrev pXp : List Str := ["_law_purse_here", "_law_jobs", "_law_nest_here", "_law_size"]
abbrev nXp : List Str := ["_law_purse_here", "_law_jobs", "_law_nest_here", "_law_size", "_law_way", "_law_many", "_law_part"]
theorem scXp : FnScope nXp pXp (defScope sXp) := ⟨rfl, rfl, rfl, by decide +kernel, rfl, by decide +kernel, by decide +kernel⟩
def spXp (n : Nat) : Sp := fun vs H Q _ => ∃ (p l : Addr) (ws : List Str) (k m c : Nat), vs = [.ref p, .ref l, .int (k : Nat), .int (m : Nat)] ∧ m < n ∧ m ≤ 8 ∧ H l = some (.lst (ws.map V.str)) ∧ l ≠ p ∧ 0 < ws.length ∧ ws.length ≤ 900 ∧ (∀ x ∈ ws, Word x) ∧ PurseAt H p c ∧ c + 4 ^ (m + 1) < 2 ^ 44 ∧
  ∀ y e H', Drw m e → Laid (nw H H') y (exT e) → PurseAt H' p (c + 4 ^ (m + 1)) → Old p H H' → Q y H'
section
variable {P : Program} {w : World} {K : PySem.W.Frag} {mg : Str → Option Value} {base : Heap} {f : Addr} {fd : FuncData}
theorem ok_xp_step {n : Nat} (F : FnP K "_law_expression" sXp f fd) (G : Got P w K mg base (n + 4) "_law_expression" pXp (spXp n)) (GD : Got P w K mg base 2 "_law_draw" ["_law_purse_here", "_law_many"] spDraw) (GO : Got P w K mg base 3 "_law_one_of" ["_law_purse_here", "_law_some"] spOne) (mMi : mg "min" = none) (mMa : mg "max" = none) (mR : mg "range" = none) :
    FnOk P w K mg base CX0 (n + 5) f fd pXp (spXp (n + 1)) := by
  refine F.ok scXp (fun vs H Q E h => ?_) (fun cdv A outer s H vs Q E hr h => ?_)
  · obtain ⟨p, l, ws, k, m, c, rfl, _⟩ := h
    rfl
  · obtain ⟨p, l, ws, k, m, c, rfl, mn, m8, hl, nl, l0, l9, hw, hp, hc, q⟩ := h
    have k2 : 2 ≤ n + 4 := by omega
    have k3 : 3 ≤ n + 4 := by omega
    have pw4 : 4 ^ (m + 1) = 4 * 4 ^ m := by rw [Nat.pow_succ, Nat.mul_comm]
    have pw1 : 1 ≤ 4 ^ m := Nat.one_le_pow _ _ (by decide)
    rw [pw4] at hc
    refine ⟨_, PSs.nox (pss_cons (ps_set (i := 4) scXp.nd rfl (by first | exact Or.inl rfl | exact Or.inr rfl) (pe_got GD hr (pa_cons (pv 0) (pa_cons pe_int pa_nil)) (by rfl) k2))
      (pss_cons (ps_if (PW.pt (pw_or (pt_cmpR op_lt (pv 3) pe_int (nomark _)) (pw_or1 (pt_cmpR op_eq (pv 4) pe_int (nomark _))))) (pss_one (ps_ret (pe_got GO hr (pa_cons (pv 0) (pa_cons (pv 1) pa_nil)) (by rfl) k3))) pss_nil)
      (pss_cons (ps_if (PW.pt (pw_and (pt_cmpR op_gt (pv 2) pe_int (nomark _)) (pw_and1 (pt_cmpR op_lt (pv 4) pe_int (nomark _))))) (pss_one (ps_ret (pe_tup (pa_cons pe_str (pa_cons (pe_got G hr (pa_cons (pv 0) (pa_cons (pv 1) (pa_cons (pe_op op_sub (pv 2) pe_int) (pa_cons (pe_op op_sub (pv 3) pe_int) pa_nil)))) (by rfl) (Nat.le_refl _)) pa_nil))))) pss_nil)
      (pss_cons (ps_set (i := 5) scXp.nd rfl (by first | exact Or.inl rfl | exact Or.inr rfl) (pe_got GD hr (pa_cons (pv 0) (pa_cons (pe_callB (call_min2 rfl) (by rfl) mMi (by decide +kernel) (pa_cons pe_int (pa_cons (pe_op op_add (pv 3) pe_int) pa_nil))) pa_nil)) (by rfl) k2))
      (pss_one (ps_ret (pe_tup (pa_cons pe_str (pa_cons (pe_lc (own := [("_law_part", 6)]) (g := gName 6) (tt := tYes) (by rfl) scXp.nd (pi_range1 (by rfl) mR (pa_cons (pv 5) pa_nil)) (blkOk_by (own := [("_law_part", 6)]) (N := nXp) (sc := defScope sXp) (by decide +kernel))
          (fun _ _ _ _ _ => pg_name (i := 6) scXp.nd rfl (Or.inl rfl)) (fun _ _ _ _ _ => pts_nil) (fun _ _ _ _ _ => pe_got G hr (pa_cons (pv 0) (pa_cons (pv 1) (pa_cons (pv 2) (pa_cons (pe_op op_fdivNN (pv 3) (pe_callB (call_max2 rfl) (by rfl) mMa (by decide +kernel) (pa_cons pe_int (pa_cons (pv 5) pa_nil)))) pa_nil)))) (by rfl) (Nat.le_refl _))) pa_nil))))))))), ?_⟩
    refine ⟨_, rfl, p, 6, c, rfl, ⟨by decide, by decide⟩, hp, by omega, fun way H1 a0 a1 p1 b1 => ?_⟩
    have o1 : Old p H H1 := .of_but b1
    have hl1 := o1 _ _ nl hl
    have hp0 := purse_some hp
    have leaf : tCall spOne [] E0 (tCons (tVar 0) (tCons (tVar 1) tNil)) [some (.ref p), some (.ref l), some (.int (k : Nat)), some (.int (m : Nat)), some (.int way), none, none] H1 Q := by
      refine ⟨_, rfl, _, rfl, p, l, ws.map V.str, c + 1, rfl, hl1, nl, ⟨by rw [List.length_map]; exact l0, by rw [List.length_map]; omega⟩, p1, by omega, fun i x H2 hx p2 b2 => ?_⟩
      rw [List.getElem?_map] at hx
      cases hi : ws[i]? with
      | none => rw [hi] at hx; cases hx
      | some s =>
        rw [hi] at hx
        cases hx
        have p4 : 4 ^ (m + 1) ≥ 4 := Nat.pow_le_pow_right (n := 4) (by decide) (show 1 ≤ m + 1 by omega)
        refine q _ (.wd s) H2 (drw_wd (hw s (List.mem_of_getElem? hi))) ?_ (p2.up (by omega)) (o1.trans (.of_but b2))
        rw [exT]
        exact .v _
    refine ⟨_, rfl, _, _, rfl, rfl, _, rfl, ?_⟩
    refine ite2 (fun _ => iteT leaf) (fun hm => ?_)
    refine ⟨_, rfl, rfl, _, rfl, ite2 (fun _ => leaf) (fun _ => ?_)⟩
    have hm' : ¬ ((m : Int) < 2) := fun h => hm (decide_eq_true h)
    have m2 : 2 ≤ m := by omega
    refine nx_and (x := decide ((0 : Int) < (k : Nat))) (y := decide (way < 4)) (fun Q' h => ⟨_, rfl, _, _, rfl, rfl, _, rfl, h⟩) (fun Q' h => ⟨_, rfl, _, _, rfl, rfl, _, rfl, h⟩) (fun hk => ?_) (fun _ => ?_)
    · have k0 : 0 < k := by
        have := of_decide_eq_true (Bool.and_eq_true_iff.mp hk).1
        omega
      refine ⟨_, rfl, _, rfl, _, rfl, _, _, rfl, rfl, _, rfl, _, _, rfl, rfl, p, l, ws, k - 1, m - 1, c + 1, ?_, by omega, by omega, hl1, nl, l0, l9, hw, p1, by rw [show m - 1 + 1 = m by omega]; omega, fun y e H2 de ly p2 o2 => ⟨(by show 2 ≤ sizeLine; decide), fun r hr => ?_⟩⟩
      · rw [show ((k - 1 : Nat) : Int) = (k : Int) - 1 by omega, show ((m - 1 : Nat) : Int) = (m : Int) - 1 by omega]
        rfl
      have s3 := same_put (o := .tup [.str "again", y]) hr
      have p3 := p2.same s3
      have e4 : c + 1 + 4 ^ (m - 1 + 1) ≤ c + 4 ^ (m + 1) := by
        rw [show m - 1 + 1 = m by omega, pw4]
        omega
      have o02 := o1.trans o2
      refine q _ (.ag e) _ (drw_ag m2 de) ?_ (p3.up e4) (o02.trans (.of_same s3))
      have fr : H r = none := by
        cases z : H r with
        | none => rfl
        | some o => exact absurd hr (old_up o02 p2 r (by rw [z]; exact fun w => by cases w))
      rw [exT]
      have l1 : Laid (nw H H2) y (exT e) := ly.same (nw_sub (old_up o1 p1))
      exact .tup (nw_of fr upd_same) (.cons (.v _) (.cons (l1.same (nw_right s3)) .nil))
    · refine ⟨_, rfl, _, rfl, _, _, rfl, rfl, _, _, rfl, p, _, c + 1, rfl, ⟨by split <;> omega, by split <;> omega⟩, p1, by omega, fun many H2 b0 b1' p2 bt2 => ?_⟩
      obtain ⟨mm, rfl⟩ := Int.eq_ofNat_of_zero_le b0
      have mm3 : mm ≤ 3 ∧ mm ≤ m := by
        split at b1' <;> omega
      have o2 : Old p H H2 := o1.trans (.of_but bt2)
      have hl2 := o2 _ _ nl hl
      have hp2 := purse_some p2
      obtain ⟨kk, ekk⟩ : ∃ kk, kk = m / max 2 mm := ⟨_, rfl⟩
      have kh : kk ≤ m - 1 := by
        have : kk ≤ m / 2 := by
          rw [ekk]
          exact Nat.div_le_div_left (by omega) (by decide)
        omega
      have pk : 4 ^ (kk + 1) ≤ 4 ^ m := Nat.pow_le_pow_right (by decide) (by omega)
      refine ⟨_, rfl, (mm : Int), rfl, by omega, by omega, fun D hD => ?_⟩
      refine lc_range (lo := 0) (n := mm) (fun i H' => ∃ es : List Ex, es.length = i ∧ (∀ e ∈ es, Drw kk e) ∧ Grp p H2 (upd H2 D (.lst [])) H' D (es.map exT) ∧ PurseAt H' p (c + 2 + i * 4 ^ m)) ⟨[], rfl, fun _ h => (List.not_mem_nil h).elim, .nil hD, (p2.upd_ne (fun z => hp2 (z ▸ hD))).up (by omega)⟩ ?_ ?_
      · rintro i H' hi ⟨es, le, de, g, pp⟩
        refine ⟨rfl, ?_⟩
        dsimp only [tYes]
        rw [if_pos rfl]
        have i4 : i * 4 ^ m ≤ 2 * 4 ^ m := Nat.mul_le_mul_right _ (by omega)
        refine ⟨_, rfl, _, rfl, _, rfl, _, rfl, _, rfl, _, _, rfl, m, max 2 mm, rfl, ?_, ⟨by omega, by omega⟩, p, l, ws, k, kk, c + 2 + i * 4 ^ m, ?_, by omega, by omega, g.keep _ _ nl hl2, nl, l0, l9, hw, pp, by omega, fun y e H3 dr ly p3 o3 => ?_⟩
        · congr 1
          split <;> omega
        · rw [← ekk]
          rfl
        · obtain ⟨acc, ga, la, gr⟩ := g.step hp2 hD (by rw [List.length_map]; omega) o3 (old_up o3 p3) ly
          refine ⟨acc, ga, la, es ++ [e], by rw [List.length_append, le]; rfl, fun f hf => ?_, by rw [List.map_append]; exact gr, ?_⟩
          · rcases List.mem_append.mp hf with hf | hf
            · exact de f hf
            · rw [List.mem_singleton.mp hf]
              exact dr
          · refine (p3.upd_ne (fun z => hp2 (z ▸ hD))).up ?_
            rw [Nat.add_mul, Nat.one_mul]
            omega
      · rintro H3 ⟨es, le, de, g, pp⟩
        obtain ⟨zs, gD, ll, _⟩ := g.fin hD
        refine ⟨(by show 2 ≤ sizeLine; decide), fun r hr => ?_⟩
        have s4 := same_put (o := .tup [.str "row", .ref D]) hr
        have o3 := o2.trans g.keep
        have up2 := old_up o2 p2
        have up3 := old_up o3 pp
        have fr : H r = none := by
          cases z : H r with
          | none => rfl
          | some o => exact absurd hr (up3 r (by rw [z]; exact fun w => by cases w))
        have i4 : mm * 4 ^ m ≤ 3 * 4 ^ m := Nat.mul_le_mul_right _ mm3.1
        have c4 : 2 ≤ 4 ^ m := by
          have : 4 ^ 1 ≤ 4 ^ m := Nat.pow_le_pow_right (by decide) (by omega)
          omega
        refine q _ (.rw es) _ (drw_rw m2 mm3.1 mm3.2 ekk le de) ?_ ((pp.same s4).up (by rw [pw4]; omega)) (o3.trans (.of_same s4))
        rw [exT, exTs_map]
        have lD : Laid (nw H2 H3) (.ref D) (.lst (es.map exT)) := .lst (nw_of hD gD) ll
        exact .tup (nw_of fr upd_same) (.cons (.v _) (.cons ((lD.same (nw_sub up2)).same (nw_right s4)) .nil))
end
end L2.K57
set_option Elab.async false
set_option linter.all false
set_option maxRecDepth 100000
set_option maxHeartbeats 4000000
namespace L2.K57
open PySem PySem.Spec PyProof.Rows L2.EV L2
/-! ### a place put into an expression -/
/-- the heap without some -/
def hids (H : Hp) (ps : List Addr) : Hp := fun b => if b ∈ ps then none else H b
theorem hids_some {H : Hp} {ps : List Addr} {b : Addr} {o : HO} (h : hids H ps b = some o) : b ∉ ps ∧ H b = some o := by
  unfold hids at h
  split at h
  · cases h
  · next n => exact ⟨n, h⟩
theorem hids_of {H : Hp} {ps : List Addr} {b : Addr} {o : HO} (n : b ∉ ps) (h : H b = some o) : hids H ps b = some o := (if_neg n).trans h
theorem hids_mono {H H' : Hp} {ps : List Addr} (k : ∀ b o, b ∉ ps → H b = some o → H' b = some o) : Same (hids H ps) (hids H' ps) := fun b o e => hids_of (hids_some e).1 (k b o (hids_some e).1 (hids_some e).2)
theorem hids_old {H : Hp} {ps : List Addr} : Same (hids H ps) H := fun _ _ e => (hids_some e).2
theorem hids_less {H : Hp} {ps : List Addr} {D : Addr} : Same (hids H (D :: ps)) (hids H ps) := fun b o e => hids_of (fun z => (hids_some e).1 (List.mem_cons_of_mem _ z)) (hids_some e).2
theorem hids_fresh {H H' : Hp} {ps : List Addr} {D : Addr} (f : H D = none) (k : ∀ b o, b ∉ ps → H b = some o → H' b = some o) : Same (hids H ps) (hids H' (D :: ps)) := fun b o e => by
  obtain ⟨n, e⟩ := hids_some e
  refine hids_of (fun z => ?_) (k b o n e)
  rcases List.mem_cons.mp z with rfl | z
  · rw [f] at e
    cases e
  · exact n z
theorem hids_upd {H : Hp} {ps : List Addr} {D : Addr} {o : HO} (h : D ∈ ps) : hids (upd H D o) ps = hids H ps := by
  funext b
  unfold hids
  by_cases e : b = D
  · rw [e, if_pos h, if_pos h]
  · rw [upd_ne e]
theorem Lds.set {H : Hp} {y : V} {t : T} (h : Laid H y t) : ∀ {xs : List V} {ts : List T} (j : Nat), Lds H xs ts → Lds H (xs.set j y) (ts.set j t)
  | _, _, 0, .nil => .nil
  | _, _, _ + 1, .nil => .nil
  | _, _, 0, .cons _ b => .cons h b
  | _, _, j + 1, .cons a b => .cons a (Lds.set h j b)
/-- no larger -/
structure Sml (e' e : Ex) : Prop where
  w : wf e'
  d : dep e' ≤ dep e
  t : tips e' ≤ tips e
  z : siz e' ≤ siz e
theorem Sml.refl {e : Ex} (w : wf e) : Sml e e := ⟨w, Nat.le_refl _, Nat.le_refl _, Nat.le_refl _⟩
theorem sml_set {e' : Ex} : ∀ {es : List Ex} {j : Nat} {e : Ex}, es[j]? = some e → Sml e' e → wfs es → wfs (es.set j e') ∧ deps (es.set j e') ≤ deps es ∧ tipss (es.set j e') ≤ tipss es ∧ sizs (es.set j e') ≤ sizs es
  | [], j, e, h, _, _ => by cases h
  | f :: es, 0, e, h, s, w => by
    cases h
    unfold wfs at w
    rw [List.set_cons_zero]
    refine ⟨by unfold wfs; exact ⟨s.w, w.2⟩, ?_, ?_, ?_⟩
    · rw [deps, deps]
      have := s.d
      omega
    · rw [tipss, tipss]
      have := s.t
      omega
    · rw [sizs, sizs]
      have := s.z
      omega
  | f :: es, j + 1, e, h, s, w => by
    unfold wfs at w
    obtain ⟨a, b, c, d⟩ := sml_set (es := es) (j := j) h s w.2
    rw [List.set_cons_succ]
    refine ⟨by unfold wfs; exact ⟨w.1, a⟩, ?_, ?_, ?_⟩
    · rw [deps, deps]
      omega
    · rw [tipss, tipss]
      omega
    · rw [sizs, sizs]
      omega
theorem anyPl_set {e' : Ex} (h : hasPl e' = true) {es : List Ex} {j : Nat} (hj : j < es.length) : anyPl (es.set j e') = true := anyPl_at (List.mem_iff_getElem.mpr ⟨j, by rw [List.length_set]; exact hj, List.getElem_set_self _⟩) h
theorem noPl_at : ∀ {es : List Ex} {e : Ex}, anyPl es = false → e ∈ es → hasPl e = false
  | f :: es, e, h, m => by
    rw [anyPl] at h
    obtain ⟨a, b⟩ := Bool.or_eq_false_iff.mp h
    rcases List.mem_cons.mp m with rfl | m
    · exact a
    · exact noPl_at b m
theorem sizs_at : ∀ {es : List Ex} {i : Nat} {e : Ex}, es[i]? = some e → siz e ≤ sizs es
  | f :: es, 0, e, h => by
    cases h
    rw [sizs]
    omega
  | f :: es, i + 1, e, h => by
    have := sizs_at (es := es) (i := i) h
    rw [sizs]
    omega
theorem sizs_two : ∀ {es : List Ex} {i j : Nat} {e f : Ex}, i ≠ j → es[i]? = some e → es[j]? = some f → siz e + siz f ≤ sizs es
  | g :: es, 0, 0, e, f, n, _, _ => absurd rfl n
  | g :: es, 0, j + 1, e, f, n, a, b => by
    cases a
    have := sizs_at (es := es) (i := j) b
    rw [sizs]
    omega
  | g :: es, i + 1, 0, e, f, n, a, b => by
    cases b
    have := sizs_at (es := es) (i := i) a
    rw [sizs]
    omega
  | g :: es, i + 1, j + 1, e, f, n, a, b => by
    have := sizs_two (es := es) (i := i) (j := j) (fun z => n (by rw [z])) a b
    rw [sizs]
    omega
theorem dexs_len : ∀ es : List Ex, (dExs es).length = es.length
  | [] => rfl
  | e :: es => congrArg Nat.succ (dexs_len es)
theorem eqv_nil (es : List Ex) : PyData.eqv (.list (dExs es)) (.list []) = decide (es = []) := by
  cases es with
  | nil => rfl
  | cons e es => simp [dExs, PyData.eqv, PyData.eqvAll]
theorem eqv_ex_nil (e : Ex) : PyData.eqv (dEx e) (.list []) = false := by
  cases e <;> simp [dEx, PyData.eqv]
theorem shaped_exs {es : List Ex} (w : wfs es) (d : deps es ≤ 31) : SeqAt.shaped (.list (dExs es)) = true := by
  obtain ⟨a, b⟩ := lays_ex w
  unfold SeqAt.shaped
  have e1 : PyData.canLay0 (.list (dExs es)) = true := by simp [PyData.canLay0, a]
  rw [e1, decide_eq_true (by simp [PyData.depth]; omega)]
  rfl
end L2.K57
set_option Elab.async false
set_option linter.all false
set_option maxRecDepth 100000
set_option maxHeartbeats 4000000
namespace L2.K57
open PySem PySem.Spec PyProof.Rows L2.EV L2
abbrev sPd : Stmt := top 34
abbrev pPd : List Str := ["_law_purse_here", "_law_expression_here"]
abbrev nPd : List Str := ["_law_purse_here", "_law_expression_here", "_law_at", "_law_parts"]
theorem scPd : FnScope nPd pPd (defScope sPd) := ⟨rfl, rfl, rfl, by decide +kernel, rfl, by decide +kernel, by decide +kernel⟩
def spPd (n : Nat) : Sp := fun vs H Q _ => ∃ (p : Addr) (v : V) (e : Ex) (c : Nat) (ps : List Addr), vs = [.ref p, v] ∧ p ∈ ps ∧ (∀ b ∈ ps, H b ≠ none) ∧ Laid (hids H ps) v (exT e) ∧ wf e ∧ hasPl e = false ∧ dep e ≤ n ∧ dep e ≤ 30 ∧ PurseAt H p c ∧ c + 2 * siz e < 2 ^ 44 ∧
  ∀ y e' H', Sml e' e → hasPl e' = true → Laid (hids H' ps) y (exT e') → PurseAt H' p (c + 2 * siz e) → Old p H H' → Q y H'
theorem ix_prev {len i : Nat} (hi : i < len) : ixN len ((i : Int) - 1) = some (if i = 0 then len - 1 else i - 1) := by
  unfold ixN
  by_cases h : i = 0
  · subst h
    rw [if_neg (by omega), if_pos (by omega), if_pos rfl]
    congr 1
    omega
  · rw [if_pos (by omega), if_pos (by omega), if_neg h]
    congr 1
    omega
theorem ix_here {len i : Nat} (hi : i < len) : ixN len (i : Int) = some i := by
  unfold ixN
  rw [if_pos (by omega), if_pos (by omega)]
  rfl
theorem old_hids {p : Addr} {ps : List Addr} {H H' : Hp} (m : p ∈ ps) (o : Old p H H') : Same (hids H ps) (hids H' ps) := hids_mono fun b u n e => o b u (fun z => n (z ▸ m)) e
section
variable {P : Program} {w : World} {K : PySem.W.Frag} {mg : Str → Option Value} {base : Heap} {f : Addr} {fd : FuncData}
theorem ok_pd_step {n : Nat} (F : FnP K "_law_placed" sPd f fd) (G : Got P w K mg base (n + 3) "_law_placed" pPd (spPd n)) (GD : Got P w K mg base 2 "_law_draw" ["_law_purse_here", "_law_many"] spDraw) (mIs : mg "isinstance" = none) (mS : mg "str" = none) (mL : mg "len" = none) (mLi : mg "list" = none) :
    FnOk P w K mg base CX0 (n + 4) f fd pPd (spPd (n + 1)) := by
  refine F.ok scPd (fun vs H Q E h => ?_) (fun cdv A outer s H vs Q E hr h => ?_)
  · obtain ⟨p, v, e, c, ps, rfl, _⟩ := h
    rfl
  · obtain ⟨p, v, e, c, ps, rfl, mp, sps, hv, we, ne, dn, d30, hp, hc, q⟩ := h
    have hu := hr.units
    have k2 : 2 ≤ n + 3 := by omega
    refine ⟨_, PSs.nox (pss_cons (ps_if (PW.pt (pw_or (pt_val (pe_callB call_isi (by rfl) mIs (by decide +kernel) (pa_cons (pv 1) (pa_cons (pe_bltn (v := .ty "str") (u := .type "str") (by rfl) mS (by decide +kernel) rfl) pa_nil)))) (pw_or1 (pt_cmpR (op_eqD hu) (pe_ix ix_tup (pv 1) pe_int (fun _ _ => rfl)) (pe_lst pa_nil) (nomark _))))) (pss_one (ps_ret (pe_tup (pa_cons pe_str pa_nil)))) pss_nil)
      (pss_cons (ps_if (pt_cmpR op_eq (pe_ix ix_tup (pv 1) pe_int (fun _ _ => rfl)) pe_str (nomark _)) (pss_one (ps_ret (pe_tup (pa_cons pe_str (pa_cons (pe_got G hr (pa_cons (pv 0) (pa_cons (pe_ix ix_tup (pv 1) pe_int (fun _ _ => rfl)) pa_nil)) (by rfl) (Nat.le_refl _)) pa_nil))))) pss_nil)
      (pss_cons (ps_set (i := 2) scPd.nd rfl (by first | exact Or.inl rfl | exact Or.inr rfl) (pe_got GD hr (pa_cons (pv 0) (pa_cons (pe_callB call_len_seq (by rfl) mL PySem.boot_len (pa_cons (pe_ix ix_tup (pv 1) pe_int (fun _ _ => rfl)) pa_nil)) pa_nil)) (by rfl) k2))
      (pss_cons (ps_set (i := 3) scPd.nd rfl (by first | exact Or.inl rfl | exact Or.inr rfl) (pe_callTy call_list_of (by rfl) mLi (by decide +kernel) (pa_cons (pe_ix ix_tup (pv 1) pe_int (fun _ _ => rfl)) pa_nil)))
      (pss_cons (ps_asg (pe_got G hr (pa_cons (pv 0) (pa_cons (pe_ix ix_list (pv 3) (pv 2) (fun _ _ => rfl)) pa_nil)) (by rfl) (Nat.le_refl _)) (pg_sub (pv 3) (pv 2) set_list))
      (pss_cons (ps_if (PW.pt (pw_and (pt_cmpR op_gt (pe_callB call_len_seq (by rfl) mL PySem.boot_len (pa_cons (pv 3) pa_nil)) pe_int (nomark _)) (pw_and1 (pt_cmpR op_eq (pe_got GD hr (pa_cons (pv 0) (pa_cons pe_int pa_nil)) (by rfl) k2) pe_int (nomark _)))))
        (pss_one (ps_asg (pe_got G hr (pa_cons (pv 0) (pa_cons (pe_ix ix_list (pv 3) (pe_op op_sub (pv 2) pe_int) (fun _ _ => rfl)) pa_nil)) (by rfl) (Nat.le_refl _)) (pg_sub (pv 3) (pe_op op_sub (pv 2) pe_int) set_list))) pss_nil)
      (pss_one (ps_ret (pe_tup (pa_cons pe_str (pa_cons (pv 3) pa_nil))))))))))), ?_⟩
    have npn : ∀ {q1 : Addr} {H1 : Hp}, (∀ b ∈ ps, H1 b ≠ none) → H1 q1 = none → q1 ∉ ps := fun k z m => k _ m z
    have place : ∀ (H1 : Hp), Same H H1 → Sml .pl e → tTup (tCons (tC (.str "place")) tNil) [some (.ref p), some v, none, none] H1 Q := fun H1 s1 sm => by
      refine ⟨(by show 1 ≤ sizeLine; decide), fun r hr => ?_⟩
      have s2 := same_put (o := .tup [.str "place"]) hr
      refine q _ .pl _ sm (by rw [hasPl]) ?_ (((hp.same s1).same s2).up (by omega)) (.of_same (s1.trans s2))
      rw [exT]
      exact .tup (hids_of (npn (fun b m z => sps b m (s1.free z)) hr) upd_same) (.cons (.v _) .nil)
    have hv0 := hv.same hids_old
    cases e with
    | pl =>
      rw [hasPl] at ne
      cases ne
    | wd s =>
      obtain rfl := ex_wd hv
      refine ⟨_, rfl, .str s, .ty "str", _, _, true, rfl, .ty _, .base (.str s), kit_ty (by decide +kernel), _, rfl, iteT (iteT ?_)⟩
      refine place H (fun _ _ e => e) ⟨by unfold wf; trivial, ?_, ?_, ?_⟩
      · rw [dep, dep]; exact Nat.le_refl _
      · rw [tips, tips]; exact Nat.le_refl _
      · rw [siz, siz]; exact Nat.le_refl _
    | ag e =>
      obtain ⟨a, u, rfl, ha, hu2⟩ := ex_ag hv0
      obtain ⟨a', u', ea, ha', hu3⟩ := ex_ag hv
      cases ea
      have hx := hids_old _ _ ha'
      rw [ha] at hx
      cases hx
      unfold wf at we
      rw [dep] at dn d30
      rw [hasPl] at ne
      refine ⟨_, rfl, .ref a, .ty "str", _, _, false, rfl, .ty _, .base (.tup ha), kit_ty (by decide +kernel), _, rfl, iteF ?_⟩
      refine ⟨_, rfl, a, _, _, u, rfl, rfl, SqT.of ha, at1 _ _ _, (by show 0 ≤ sizeLine; decide), fun l0 hl0 => ?_⟩
      have s1 := same_upd (o := .lst []) hl0
      refine ⟨dEx e, .list [], ex_dp (hu2.same s1), .lst (SqL.of upd_same) .nil, shaped_ex we (by omega), by decide +kernel, ?_⟩
      rw [eqv_ex_nil]
      have ha1 := s1 _ _ ha
      refine ⟨_, rfl, iteF ⟨_, rfl, a, _, _, .str "again", rfl, rfl, SqT.of ha1, at0 _ _, rfl, ?_⟩⟩
      rw [decide_eq_true rfl]
      refine ⟨_, rfl, iteT ?_⟩
      have sz : siz (.ag e) = 1 + siz e := by rw [siz]
      rw [sz] at hc q
      refine ⟨_, rfl, _, rfl, a, _, _, u, rfl, rfl, SqT.of ha1, at1 _ _ _, p, u, e, c, ps, rfl, mp, fun b m z => sps b m (s1.free z), hu3.same (hids_mono fun b o _ e => s1 b o e), we, ne, by omega, by omega, hp.same s1, by omega, fun y e' H2 sm pl ly p2 o2 => ⟨(by show 2 ≤ sizeLine; decide), fun r hr => ?_⟩⟩
      have s3 := same_put (o := .tup [.str "again", y]) hr
      have o02 : Old p H H2 := (Old.of_same s1).trans o2
      refine q _ (.ag e') _ ⟨by unfold wf; exact sm.w, ?_, ?_, ?_⟩ (by rw [hasPl]; exact pl) ?_ ((p2.same s3).up (by omega)) (o02.trans (.of_same s3))
      · rw [dep, dep]
        exact Nat.add_le_add_right sm.d 1
      · rw [tips, tips]
        exact sm.t
      · rw [siz, siz]
        exact Nat.add_le_add_left sm.z 1
      · have up := old_up o02 p2
        rw [exT]
        exact .tup (hids_of (npn (fun b m => up b (sps b m)) hr) upd_same) (.cons (.v _) (.cons (ly.same (hids_mono fun b o _ e => s3 b o e)) .nil))
    | rw es =>
      obtain ⟨a, l, us, rfl, ha, hl, hus⟩ := ex_rw hv
      have ga := hids_old _ _ ha
      have gl := hids_old _ _ hl
      have gus := hus.same hids_old
      have lus := lds_exlen hus
      have we0 := we
      unfold wf at we
      have dd := d30
      rw [dep] at dn d30
      rw [hasPl] at ne
      have sz : siz (.rw es) = 1 + sizs es := by rw [siz]
      refine ⟨_, rfl, .ref a, .ty "str", _, _, false, rfl, .ty _, .base (.tup ga), kit_ty (by decide +kernel), _, rfl, iteF ?_⟩
      refine ⟨_, rfl, a, _, _, .ref l, rfl, rfl, SqT.of ga, at1 _ _ _, (by show 0 ≤ sizeLine; decide), fun l0 hl0 => ?_⟩
      have s1 := same_upd (o := .lst []) hl0
      have gl0 : upd H l0 (.lst []) l0 = some (.lst []) := upd_same
      generalize upd H l0 (.lst []) = H1 at s1 gl0
      refine ⟨.list (dExs es), .list [], .lst (SqL.of (s1 _ _ gl)) (exs_dp (gus.same s1)), .lst (SqL.of gl0) .nil, shaped_exs we.2 (by omega), by decide +kernel, ?_⟩
      rw [eqv_nil]
      refine ⟨_, rfl, ite2 (fun he => ?_) (fun he => ?_)⟩
      · have he := of_decide_eq_true he
        subst he
        refine place H1 s1 ⟨by unfold wf; trivial, ?_, ?_, ?_⟩
        · rw [dep, dep, deps]; exact Nat.le_refl _
        · rw [tips, tips, tipss]; exact Nat.le_refl _
        · rw [siz, siz, sizs]; exact Nat.le_refl _
      · have hne : es ≠ [] := fun z => he (decide_eq_true z)
        have hpos : 0 < us.length := by
          rw [lus]
          exact List.length_pos_iff.mpr hne
        have ha1 := s1 _ _ ga
        have hl1 := s1 _ _ gl
        refine ⟨_, rfl, a, _, _, .str "row", rfl, rfl, SqT.of ha1, at0 _ _, rfl, ?_⟩
        rw [decide_eq_false (by decide)]
        refine ⟨_, rfl, iteF ?_⟩
        refine ⟨_, rfl, _, rfl, a, _, _, .ref l, rfl, rfl, SqT.of ha1, at1 _ _ _, l, us, rfl, .inl (SqL.of hl1), p, _, c, rfl, ⟨by omega, by omega⟩, hp.same s1, by omega, fun at' H2 b0 b1 p2 bt2 => ?_⟩
        obtain ⟨i, rfl⟩ := Int.eq_ofNat_of_zero_le b0
        have hi : i < us.length := by omega
        have o2 : Old p H H2 := (Old.of_same s1).trans (.of_but bt2)
        have up2 := old_up o2 p2
        have nap : a ∉ ps := (hids_some ha).1
        have nlp : l ∉ ps := (hids_some hl).1
        have ga2 := o2 _ _ (fun z => nap (by rw [z]; exact mp)) ga
        have gl2 := o2 _ _ (fun z => nlp (by rw [z]; exact mp)) gl
        refine ⟨_, rfl, a, _, _, .ref l, rfl, rfl, SqT.of ga2, at1 _ _ _, l, us, rfl, .inl (SqL.of gl2), fun D hD => ?_⟩
        have s3 := same_put (o := .lst us) hD
        have gD : upd H2 D (.lst us) D = some (.lst us) := upd_same
        have p3 := p2.same s3
        have o3 := o2.trans (.of_same s3)
        have HusD : Lds (hids (upd H2 D (.lst us)) (D :: ps)) us (exTs es) := hus.same (hids_fresh (H := H) (D := D) (by
          cases z : H D with
          | none => rfl
          | some o => exact absurd hD (up2 D (by rw [z]; exact fun w => by cases w))) fun b o n e => o3 b o (fun z => n (z ▸ mp)) e)
        have up3 := old_up o3 p3
        generalize upd H2 D (.lst us) = H3 at s3 gD p3 o3 HusD up3
        have nDp : D ≠ p := fun z => by
          obtain ⟨_, _, _, _, g, _⟩ := p2
          rw [z, g] at hD
          cases hD
        -- the end
        have fin : ∀ (zs : List V) (es' : List Ex) (H' : Hp) (c' : Nat), H' D = some (.lst zs) → Lds (hids H' (D :: ps)) zs (exTs es') → wfs es' → es'.length = es.length → deps es' ≤ deps es → tipss es' ≤ tipss es → sizs es' ≤ sizs es → anyPl es' = true → PurseAt H' p c' → c' ≤ c + 2 * siz (.rw es) → Old p H H' →
            tTup (tCons (tC (.str "row")) (tCons (tVar 3) tNil)) [some (.ref p), some (.ref a), some (.int (i : Nat)), some (.ref D)] H' Q := fun zs es' H' c' gz lz w' len d' t' z' pl' p' cc o' => by
          refine ⟨_, rfl, (by show 2 ≤ sizeLine; decide), fun r hr => ?_⟩
          have s9 := same_put (o := .tup [.str "row", .ref D]) hr
          have up' := old_up o' p'
          refine q _ (.rw es') _ ⟨by unfold wf; exact ⟨by omega, w'⟩, ?_, ?_, ?_⟩ (by rw [hasPl]; exact pl') ?_ ((p'.same s9).up cc) (o'.trans (.of_same s9))
          · rw [dep, dep]
            exact Nat.add_le_add_right d' 1
          · rw [tips, tips]
            omega
          · rw [siz, siz]
            omega
          · have nDps : D ∉ ps := fun m => by
              have z : H D ≠ none := sps D m
              exact up2 D z hD
            rw [exT]
            refine .tup (hids_of (npn (fun b m => up' b (sps b m)) hr) upd_same) (.cons (.v _) (.cons (.lst (hids_of nDps (s9 _ _ gz)) (lz.same fun b o e => ?_)) .nil))
            exact hids_less _ _ (hids_mono (fun b o _ e => s9 b o e) _ _ e)
        obtain ⟨u, hu'⟩ : ∃ u, us[i]? = some u := ⟨_, List.getElem?_eq_getElem hi⟩
        obtain ⟨e1, he1, le1⟩ := lds_ex HusD hu'
        have me1 := List.mem_of_getElem? he1
        have d1 := deps_at me1
        have z1 := sizs_at he1
        rw [sz] at hc
        refine ⟨_, rfl, _, rfl, _, rfl, D, us, _, u, rfl, rfl, SqL.of gD, atI_nat hu', p, u, e1, c + 1, D :: ps, rfl, List.mem_cons_of_mem _ mp, fun b m => ?_, le1, wfs_at we.2 me1, noPl_at ne me1, by omega, by omega, p3, by omega, fun y1 e1' H4 sm1 pl1 ly1 p4 o4 => ?_⟩
        · rcases List.mem_cons.mp m with rfl | m
          · rw [gD]
            exact fun z => by cases z
          · exact up3 b (sps b m)
        have gD4 := o4 _ _ nDp gD
        refine ⟨_, rfl, _, rfl, D, us, _, i, rfl, rfl, gD4, ix_here hi, ?_⟩
        have o04 := o3.trans o4
        have HusD4 : Lds (hids H4 (D :: ps)) (us.set i y1) (exTs (es.set i e1')) := by
          have := Lds.set ly1 i (HusD.same (old_hids (List.mem_cons_of_mem _ mp) o4))
          rw [exTs_map] at this
          rw [exTs_map, List.map_set]
          exact this
        obtain ⟨w5, d5, t5, z5⟩ := sml_set he1 sm1 we.2
        have hies : i < es.length := by omega
        have pl5 := anyPl_set pl1 hies
        have gD5 : upd H4 D (.lst (us.set i y1)) D = some (.lst (us.set i y1)) := upd_same
        have p5 := p4.upd_ne (o := .lst (us.set i y1)) nDp.symm
        have o5 : Old p H (upd H4 D (.lst (us.set i y1))) := fun b o n e => by
          have nb : b ≠ D := fun z => up2 b (by rw [e]; exact fun w => by cases w) (z ▸ hD)
          rw [upd_ne nb]
          exact o04 b o n e
        have lz5 : Lds (hids (upd H4 D (.lst (us.set i y1))) (D :: ps)) (us.set i y1) (exTs (es.set i e1')) := by
          rw [hids_upd List.mem_cons_self]
          exact HusD4
        generalize upd H4 D (.lst (us.set i y1)) = H5 at gD5 p5 o5 lz5
        have cc5 : c + 1 + 2 * siz e1 ≤ c + 2 * siz (.rw es) := by
          rw [sz]
          omega
        refine ⟨_, rfl, D, _, rfl, .inl (SqL.of gD5), _, _, rfl, rfl, _, rfl, ?_⟩
        refine ite2 (fun h1 => ?_) (fun _ => iteF (fin _ _ H5 _ gD5 lz5 w5 (List.length_set ..) d5 t5 z5 pl5 p5 cc5 o5))
        refine ⟨_, rfl, p, 4, _, rfl, ⟨by decide, by decide⟩, p5, by omega, fun r6 H6 r0 r1 p6 bt6 => ⟨rfl, _, rfl, ?_⟩⟩
        have gD6 := (Old.of_but bt6 : Old p H5 H6) _ _ nDp gD5
        have o6 := o5.trans (.of_but bt6)
        have lz6 := lz5.same (old_hids (List.mem_cons_of_mem _ mp) (Old.of_but bt6))
        have cc6 : c + 1 + 2 * siz e1 + 1 ≤ c + 2 * siz (.rw es) := by
          rw [sz]
          omega
        refine ite2 (fun _ => ?_) (fun _ => fin _ _ H6 _ gD6 lz6 w5 (List.length_set ..) d5 t5 z5 pl5 p6 cc6 o6)
        have len2 : 1 < us.length := by
          have := of_decide_eq_true h1
          rw [List.length_set] at this
          omega
        obtain ⟨j, ej⟩ : ∃ j, j = if i = 0 then us.length - 1 else i - 1 := ⟨_, rfl⟩
        have hj : j < us.length := by
          rw [ej]
          split <;> omega
        have nji : i ≠ j := by
          rw [ej]
          split <;> omega
        have ixj : ixN (us.set i y1).length ((i : Int) - 1) = some j := by
          rw [List.length_set, ix_prev hi, ej]
        obtain ⟨u2, hu2⟩ : ∃ u, (us.set i y1)[j]? = some u := ⟨_, List.getElem?_eq_getElem (by rw [List.length_set]; exact hj)⟩
        obtain ⟨e2, he2, le2⟩ := lds_ex lz6 hu2
        have he2' : es[j]? = some e2 := by
          rw [List.getElem?_set_ne nji] at he2
          exact he2
        have me2 := List.mem_of_getElem? he2'
        have d2 := deps_at me2
        have z2 := sizs_two nji he1 he2'
        have up6 := old_up o6 p6
        refine ⟨_, rfl, _, rfl, _, rfl, _, _, rfl, rfl, D, _, _, u2, rfl, rfl, SqL.of gD6, by unfold atI; rw [ixj]; exact hu2, p, u2, e2, c + 1 + 2 * siz e1 + 1, D :: ps, rfl, List.mem_cons_of_mem _ mp, fun b m => ?_, le2, wfs_at we.2 me2, noPl_at ne me2, by omega, by omega, p6, by omega, fun y2 e2' H7 sm2 pl2 ly2 p7 o7 => ?_⟩
        · rcases List.mem_cons.mp m with rfl | m
          · rw [gD6]
            exact fun z => by cases z
          · exact up6 b (sps b m)
        have gD7 := o7 _ _ nDp gD6
        refine ⟨_, rfl, _, rfl, _, _, rfl, rfl, D, _, _, j, rfl, rfl, gD7, ixj, ?_⟩
        obtain ⟨w8, d8, t8, z8⟩ := sml_set he2 sm2 w5
        have pl8 := anyPl_set (es := es.set i e1') (j := j) pl2 (by rw [List.length_set]; omega)
        have o07 := o6.trans o7
        refine fin ((us.set i y1).set j y2) ((es.set i e1').set j e2') _ (c + 1 + 2 * siz e1 + 1 + 2 * siz e2) upd_same ?_ w8 (by rw [List.length_set, List.length_set]) (by omega) (by omega) (by omega) pl8 (p7.upd_ne nDp.symm) (by rw [sz]; omega) fun b o n e => ?_
        · rw [hids_upd List.mem_cons_self]
          have := Lds.set ly2 j (lz6.same (old_hids (List.mem_cons_of_mem _ mp) o7))
          rw [exTs_map] at this
          rw [exTs_map, List.map_set]
          exact this
        · have nb : b ≠ D := fun z => up2 b (by rw [e]; exact fun w => by cases w) (z ▸ hD)
          rw [upd_ne nb]
          exact o07 b o n e
end
end L2.K57
set_option Elab.async false
set_option linter.all false
set_option maxRecDepth 100000
set_option maxHeartbeats 4000000
namespace L2.K57
open PySem PySem.Spec PyProof.Rows L2.EV L2
/-! ### bent in one place -/
theorem siz_pos : ∀ e : Ex, 1 ≤ siz e
  | .wd _ => by rw [siz]; exact Nat.le_refl _
  | .pl => by rw [siz]; exact Nat.le_refl _
  | .ag e => by rw [siz]; exact Nat.le_add_right _ _
  | .rw es => by rw [siz]; exact Nat.le_add_right _ _
mutual
/-- no names, no sums -/
def clT : T → Bool
  | .v _ => true
  | .tup ts => clsT ts
  | .lst ts => clsT ts
  | .dct _ ts => clsT ts
  | _ => false
def clsT : List T → Bool
  | [] => true
  | t :: ts => clT t && clsT ts
end
mutual
theorem val_self {σ : St} : ∀ {t : T}, clT t = true → Val σ t t
  | .v x, _ => .v x
  | .tup ts, h => .tup (vls_self (by unfold clT at h; exact h))
  | .lst ts, h => .lst (vls_self (by unfold clT at h; exact h))
  | .dct ks ts, h => .dct (vls_self (by unfold clT at h; exact h))
  | .sl i, h => by unfold clT at h; cases h
  | .op f a b, h => by unfold clT at h; cases h
theorem vls_self {σ : St} : ∀ {ts : List T}, clsT ts = true → Vls σ ts ts
  | [], _ => .nil
  | t :: ts, h => by
    unfold clsT at h
    obtain ⟨h1, h2⟩ := Bool.and_eq_true_iff.mp h
    exact .cons (val_self h1) (vls_self h2)
end
theorem Fm.mono {b : Bool} {n : Nat} {t : T} {r : Bool} (h : Fm b n t r) : ∀ {m : Nat}, n ≤ m → Fm b m t r := by
  induction h with
  | word a => intro m l; obtain ⟨k, rfl⟩ : ∃ k, m = k + 1 := ⟨m - 1, by omega⟩; exact .word a
  | non => intro m l; obtain ⟨k, rfl⟩ : ∃ k, m = k + 1 := ⟨m - 1, by omega⟩; exact .non
  | bl => intro m l; obtain ⟨k, rfl⟩ : ∃ k, m = k + 1 := ⟨m - 1, by omega⟩; exact .bl
  | int => intro m l; obtain ⟨k, rfl⟩ : ∃ k, m = k + 1 := ⟨m - 1, by omega⟩; exact .int
  | lst => intro m l; obtain ⟨k, rfl⟩ : ∃ k, m = k + 1 := ⟨m - 1, by omega⟩; exact .lst
  | len a c => intro m l; obtain ⟨k, rfl⟩ : ∃ k, m = k + 1 := ⟨m - 1, by omega⟩; exact .len a c
  | one => intro m l; obtain ⟨k, rfl⟩ : ∃ k, m = k + 1 := ⟨m - 1, by omega⟩; exact .one
  | again _ ih => intro m l; obtain ⟨k, rfl⟩ : ∃ k, m = k + 1 := ⟨m - 1, by omega⟩; exact .again (ih (by omega))
  | row a c _ ih => intro m l; obtain ⟨k, rfl⟩ : ∃ k, m = k + 1 := ⟨m - 1, by omega⟩; exact .row a c fun i t r x y => ih i t r x y (by omega)
  | rowN => intro m l; obtain ⟨k, rfl⟩ : ∃ k, m = k + 1 := ⟨m - 1, by omega⟩; exact .rowN
  | two a c => intro m l; obtain ⟨k, rfl⟩ : ∃ k, m = k + 1 := ⟨m - 1, by omega⟩; exact .two a c
def oddT : List T := [.v .non, .v (.int 5), .v (.str ""), .tup [.v (.str "place"), .v .non], .lst [.v (.str "place")], .tup [], .tup [.v (.str "places")], .tup [.v (.str "row")], .v (.bl true)]
theorem odd_fm {n : Nat} {t : T} (h : t ∈ oddT) : Fm true (n + 1) t false := by
  simp only [oddT, List.mem_cons, List.not_mem_nil, or_false] at h
  rcases h with rfl | rfl | rfl | rfl | rfl | rfl | rfl | rfl | rfl
  · exact .non
  · exact .int
  · have := Fm.word (b := true) (n := n) (s := "") (by rw [sizeLine_eq]; decide +kernel)
    rw [show wordB "" = false by decide +kernel] at this
    exact this
  · exact .two (by decide) (by decide)
  · exact .lst
  · exact .len (by decide) (by decide)
  · have := Fm.one (b := true) (n := n) (z := "places")
    rw [show (true && decide (("places" : Str) = "place")) = false by decide +kernel] at this
    exact this
  · have := Fm.one (b := true) (n := n) (z := "row")
    rw [show (true && decide (("row" : Str) = "place")) = false by decide +kernel] at this
    exact this
  · exact .bl
/-- a row with one part bent -/
theorem fm_row {n : Nat} {es : List Ex} {i : Nat} {t : T} (w : wfs es) (len : es.length ≤ 100) (d : deps es ≤ n) (hi : i < es.length) (h : Fm true n t false) : Fm true (n + 1) (.tup [.v (.str "row"), .lst ((exTs es).set i t)]) false := by
  have := Fm.row (b := true) (n := n) (ts := (exTs es).set i t) (rs := (List.replicate es.length true).set i false) (by rw [List.length_set, exTs_len]; omega) (by rw [List.length_set, List.length_set, List.length_replicate, exTs_len]) fun j u r hu hr => by
    by_cases e : i = j
    · subst e
      rw [List.getElem?_set_self (by rw [exTs_len]; exact hi)] at hu
      rw [List.getElem?_set_self (by rw [List.length_replicate]; exact hi)] at hr
      cases hu
      cases hr
      exact h
    · rw [List.getElem?_set_ne e] at hu hr
      rw [List.getElem?_replicate] at hr
      split at hr
      · cases hr
        rw [exTs_map, List.getElem?_map] at hu
        cases q : es[j]? with
        | none => rw [q] at hu; cases hu
        | some f =>
          rw [q] at hu
          cases hu
          have m := List.mem_of_getElem? q
          have := fm_ex (b := true) f n (wfs_at w m) (Nat.le_trans (deps_at m) d)
          rw [Bool.true_or] at this
          exact this
      · cases hr
  rw [show ((List.replicate es.length true).set i false).all id = false by
    rw [List.all_eq_false]
    exact ⟨false, List.mem_iff_getElem.mpr ⟨i, by rw [List.length_set, List.length_replicate]; exact hi, List.getElem_set_self _⟩, by decide⟩] at this
  exact this
abbrev sBn : Stmt := top 38
abbrev pBn : List Str := ["_law_purse_here", "_law_frame"]
abbrev nBn : List Str := ["_law_purse_here", "_law_frame", "_law_at"]
theorem scBn : FnScope nBn pBn (defScope sBn) := ⟨rfl, rfl, rfl, by decide +kernel, rfl, by decide +kernel, by decide +kernel⟩
def spBn (n : Nat) : Sp := fun vs H Q _ => ∃ (p : Addr) (v : V) (e : Ex) (c : Nat), vs = [.ref p, v] ∧ Laid (hid H p) v (exT e) ∧ wf e ∧ dep e ≤ n ∧ dep e ≤ 30 ∧ PurseAt H p c ∧ c + 2 * siz e < 2 ^ 44 ∧
  ∀ y t H', Laid (hid H' p) y t → Fm true (dep e) t false → PurseAt H' p (c + 2 * siz e) → Old p H H' → Q y H'
theorem cut_at {xs : List V} {i : Nat} (h : i < xs.length) {y : V} : cutV xs none (some (i : Int)) ++ [y] ++ cutV xs (some ((i : Int) + 1)) none = xs.set i y := by
  have e1 : cutV xs none (some (i : Int)) = xs.take i := by
    unfold cutV
    rw [HT.sIx_none, HT.sIx_nat, List.drop_zero, Nat.sub_zero, Nat.min_eq_left (by omega)]
  have e2 : cutV xs (some ((i : Int) + 1)) none = xs.drop (i + 1) := by
    unfold cutV
    rw [HT.sIx_none, show ((i : Int) + 1) = ((i + 1 : Nat) : Int) by omega, HT.sIx_nat, Nat.min_eq_left (by omega)]
    exact List.take_of_length_le (by rw [List.length_drop]; exact Nat.le_refl _)
  rw [e1, e2, List.set_eq_take_append_cons_drop, if_pos h]
  simp
section
variable {P : Program} {w : World} {K : PySem.W.Frag} {mg : Str → Option Value} {base : Heap} {f : Addr} {fd : FuncData}
theorem ok_bn_step {n : Nat} (F : FnP K "_law_bent" sBn f fd) (G : Got P w K mg base (n + 4) "_law_bent" pBn (spBn n)) (GD : Got P w K mg base 2 "_law_draw" ["_law_purse_here", "_law_many"] spDraw) (GO : Got P w K mg base 3 "_law_one_of" ["_law_purse_here", "_law_some"] spOne) (mIs : mg "isinstance" = none) (mS : mg "str" = none) (mL : mg "len" = none) (mT : mg "tuple" = none) :
    FnOk P w K mg base CX0 (n + 5) f fd pBn (spBn (n + 1)) := by
  refine F.ok scBn (fun vs H Q E h => ?_) (fun cdv A outer s H vs Q E hr h => ?_)
  · obtain ⟨p, v, e, c, rfl, _⟩ := h
    rfl
  · obtain ⟨p, v, e, c, rfl, hv, we, dn, d30, hp, hc, q⟩ := h
    have hu := hr.units
    have k2 : 2 ≤ n + 4 := by omega
    have k3 : 3 ≤ n + 4 := by omega
    refine ⟨_, PSs.nox (pss_cons (ps_if (PW.pt (pw_or (pt_val (pe_callB call_isi (by rfl) mIs (by decide +kernel) (pa_cons (pv 1) (pa_cons (pe_bltn (v := .ty "str") (u := .type "str") (by rfl) mS (by decide +kernel) rfl) pa_nil)))) (pw_or1 (pt_cmpR (op_eqD hu) (pv 1) (pe_tup (pa_cons pe_str pa_nil)) (nomark _)))))
        (pss_one (ps_ret (pe_got GO hr (pa_cons (pv 0) (pa_cons (pl_lst (pla_cons pl_non (pla_cons pl_int (pla_cons pl_str (pla_cons (pl_tup (pla_cons pl_str (pla_cons pl_non pla_nil))) (pla_cons (pl_lst (pla_cons pl_str pla_nil)) (pla_cons (pl_tup pla_nil) (pla_cons (pl_tup (pla_cons pl_str pla_nil)) (pla_cons (pl_tup (pla_cons pl_str pla_nil)) (pla_cons pl_bl pla_nil)))))))))) pa_nil)) (by rfl) k3))) pss_nil)
      (pss_cons (ps_if (pt_cmpR op_eq (pe_ix ix_tup (pv 1) pe_int (fun _ _ => rfl)) pe_str (nomark _)) (pss_one (ps_ret (pe_ifExp (pt_cmpR op_gt (pe_got GD hr (pa_cons (pv 0) (pa_cons pe_int pa_nil)) (by rfl) k2) pe_int (nomark _))
          (pe_tup (pa_cons pe_str (pa_cons (pe_got G hr (pa_cons (pv 0) (pa_cons (pe_ix ix_tup (pv 1) pe_int (fun _ _ => rfl)) pa_nil)) (by rfl) (Nat.le_refl _)) pa_nil))) (pe_lst (pa_cons pe_str (pa_cons (pe_ix ix_tup (pv 1) pe_int (fun _ _ => rfl)) pa_nil)))))) pss_nil)
      (pss_cons (ps_if (PW.pt (pw_or (pt_cmpR (op_eqD hu) (pe_ix ix_tup (pv 1) pe_int (fun _ _ => rfl)) (pe_lst pa_nil) (nomark _)) (pw_or1 (pt_cmpR op_eq (pe_got GD hr (pa_cons (pv 0) (pa_cons pe_int pa_nil)) (by rfl) k2) pe_int (nomark _)))))
        (pss_one (ps_ret (pe_tup (pa_cons pe_str (pa_cons (pe_callTy call_tuple_of (by rfl) mT (by decide +kernel) (pa_cons (pe_ix ix_tup (pv 1) pe_int (fun _ _ => rfl)) pa_nil)) pa_nil))))) pss_nil)
      (pss_cons (ps_set (i := 2) scBn.nd rfl (by first | exact Or.inl rfl | exact Or.inr rfl) (pe_got GD hr (pa_cons (pv 0) (pa_cons (pe_callB call_len_seq (by rfl) mL PySem.boot_len (pa_cons (pe_ix ix_tup (pv 1) pe_int (fun _ _ => rfl)) pa_nil)) pa_nil)) (by rfl) k2))
      (pss_one (ps_ret (pe_tup (pa_cons pe_str (pa_cons (pe_op op_cat (pe_op op_cat (pe_slice sl_list (pe_ix ix_tup (pv 1) pe_int (fun _ _ => rfl)) po_none (po_some (pv 2))) (pe_lst (pa_cons (pe_got G hr (pa_cons (pv 0) (pa_cons (pe_ix ix_list (pe_ix ix_tup (pv 1) pe_int (fun _ _ => rfl)) (pv 2) (fun _ _ => rfl)) pa_nil)) (by rfl) (Nat.le_refl _)) pa_nil)))
        (pe_slice sl_list (pe_ix ix_tup (pv 1) pe_int (fun _ _ => rfl)) (po_some (pe_op op_add (pv 2) pe_int)) po_none)) pa_nil))))))))), ?_⟩
    have hv0 := hv.same hid_old
    have hp0 := purse_some hp
    have np : ∀ {b : Addr} {H' : Hp}, H' p ≠ none → H' b = none → b ≠ p := fun {b H'} k z e => k (e ▸ z)
    -- an odd thing
    have odd : ∀ (H1 : Hp), Same H H1 → tCall spOne [] E0 (tCons (tVar 0) (tCons (tL (.lst oddT)) tNil)) [some (.ref p), some v, none] H1 Q := fun H1 s1 => by
      have p1 := hp.same s1
      refine ⟨_, rfl, _, val_self (by decide +kernel), fun x H2 s2 l2 => ?_⟩
      cases l2 with
      | @lst l xs _ gl ll =>
        have len := ll.length
        have l9 : oddT.length = 9 := rfl
        have p2 := p1.same s2
        obtain ⟨fl, gl2⟩ := nw_some gl
        have nlp : l ≠ p := np (purse_some p1) fl
        have sp := siz_pos e
        refine ⟨p, l, xs, c, rfl, gl2, nlp, ⟨by omega, by omega⟩, p2, by omega, fun i y H3 hy p3 bt3 => ?_⟩
        obtain ⟨t, ht, lt⟩ := ll.at hy
        have dp := dep_pos e
        obtain ⟨k, ek⟩ : ∃ k, dep e = k + 1 := ⟨dep e - 1, by omega⟩
        refine q y t H3 (lt.same fun b o eb => ?_) (by rw [ek]; exact odd_fm (List.mem_of_getElem? ht)) (p3.up (by omega)) ((Old.of_same (s1.trans s2)).trans (.of_but bt3))
        obtain ⟨f1, g1⟩ := nw_some eb
        have nb : b ≠ p := np (purse_some p1) f1
        exact hid_of nb ((bt3 b nb).trans g1)
    have rf : Same H H := fun _ _ e => e
    have hid1 : ∀ {H1 H2 : Hp}, Old p H1 H2 → Same (hid H1 p) (hid H2 p) := fun o b u e => hid_of (hid_some e).1 (o b u (hid_some e).1 (hid_some e).2)
    cases e with
    | wd s =>
      obtain rfl := ex_wd hv0
      exact ⟨_, rfl, .str s, .ty "str", _, _, true, rfl, .ty _, .base (.str s), kit_ty (by decide +kernel), _, rfl, iteT (iteT (odd H rf))⟩
    | pl =>
      obtain ⟨a, rfl, ha⟩ := ex_pl hv0
      refine ⟨_, rfl, .ref a, .ty "str", _, _, false, rfl, .ty _, .base (.tup ha), kit_ty (by decide +kernel), _, rfl, iteF ?_⟩
      refine ⟨_, rfl, (by show 1 ≤ sizeLine; decide), fun p0 hp0 => ?_⟩
      have s1 := same_upd (o := .tup [.str "place"]) hp0
      refine eq_pl (hv0.same s1) we (by omega) upd_same ?_
      exact ⟨_, rfl, iteT (odd _ s1)⟩
    | ag e =>
      have we0 := we
      have d0 := d30
      obtain ⟨a, u, rfl, ha, hu2⟩ := ex_ag hv
      have ga := hid_old _ _ ha
      have nap := (hid_some ha).1
      unfold wf at we
      rw [dep] at dn d30
      have sz : siz (.ag e) = 1 + siz e := by rw [siz]
      rw [sz] at hc q
      have dpe : dep (.ag e) = dep e + 1 := by rw [dep]
      refine ⟨_, rfl, .ref a, .ty "str", _, _, false, rfl, .ty _, .base (.tup ga), kit_ty (by decide +kernel), _, rfl, iteF ?_⟩
      refine ⟨_, rfl, (by show 1 ≤ sizeLine; decide), fun p0 hp0 => ?_⟩
      have s1 := same_upd (o := .tup [.str "place"]) hp0
      refine eq_pl (hv0.same s1) we0 (by omega) upd_same ?_
      have ga1 := s1 _ _ ga
      refine ⟨_, rfl, iteF ⟨_, rfl, a, _, _, .str "again", rfl, rfl, SqT.of ga1, at0 _ _, rfl, ?_⟩⟩
      rw [decide_eq_true rfl]
      refine ⟨_, rfl, iteT ?_⟩
      refine ⟨_, rfl, p, 3, c, rfl, ⟨by decide, by decide⟩, hp.same s1, by omega, fun r H2 r0 r1 p2 bt2 => ⟨_, _, rfl, rfl, _, rfl, ?_⟩⟩
      have o2 : Old p H H2 := (Old.of_same s1).trans (.of_but bt2)
      have ga2 := o2 _ _ nap ga
      refine ite2 (fun _ => ?_) (fun _ => ?_)
      · refine ⟨_, rfl, _, rfl, a, _, _, u, rfl, rfl, SqT.of ga2, at1 _ _ _, p, u, e, c + 1, rfl, hu2.same (hid1 o2), we, by omega, by omega, p2, by omega, fun y t H3 ly fm p3 o3 => ⟨(by show 2 ≤ sizeLine; decide), fun r9 hr9 => ?_⟩⟩
        have s4 := same_put (o := .tup [.str "again", y]) hr9
        refine q _ (.tup [.v (.str "again"), t]) _ (.tup (hid_of (np (purse_some p3) hr9) upd_same) (.cons (.v _) (.cons (ly.same (hid_mono s4)) .nil))) (by rw [dpe]; exact .again fm) ((p3.same s4).up (by omega)) (o2.trans (o3.trans (.of_same s4)))
      · refine ⟨_, rfl, a, _, _, u, rfl, rfl, SqT.of ga2, at1 _ _ _, (by show 2 ≤ sizeLine; decide), fun r9 hr9 => ?_⟩
        have s4 := same_put (o := .lst [.str "again", u]) hr9
        refine q _ (.lst [.v (.str "again"), exT e]) _ (.lst (hid_of (np (purse_some p2) hr9) upd_same) (.cons (.v _) (.cons ((hu2.same (hid1 o2)).same (hid_mono s4)) .nil))) (by rw [dpe]; exact .lst) ((p2.same s4).up (by omega)) (o2.trans (.of_same s4))
    | rw es =>
      have we0 := we
      obtain ⟨a, l, us, rfl, ha, hl, hus⟩ := ex_rw hv
      have ga := hid_old _ _ ha
      have gl := hid_old _ _ hl
      have nap := (hid_some ha).1
      have nlp := (hid_some hl).1
      have lus := lds_exlen hus
      unfold wf at we
      have dpe : dep (.rw es) = deps es + 1 := by rw [dep]
      have dn' := dn
      rw [dpe] at dn d30 q
      have sz : siz (.rw es) = 1 + sizs es := by rw [siz]
      rw [sz] at hc q
      refine ⟨_, rfl, .ref a, .ty "str", _, _, false, rfl, .ty _, .base (.tup ga), kit_ty (by decide +kernel), _, rfl, iteF ?_⟩
      refine ⟨_, rfl, (by show 1 ≤ sizeLine; decide), fun p0 hp0 => ?_⟩
      have s1 := same_upd (o := .tup [.str "place"]) hp0
      refine eq_pl (hv0.same s1) we0 (by omega) upd_same ?_
      have ga1 := s1 _ _ ga
      refine ⟨_, rfl, iteF ⟨_, rfl, a, _, _, .str "row", rfl, rfl, SqT.of ga1, at0 _ _, rfl, ?_⟩⟩
      rw [decide_eq_false (by decide)]
      refine ⟨_, rfl, iteF ?_⟩
      generalize upd H p0 (.tup [.str "place"]) = H1 at s1 ga1
      have gl1 := s1 _ _ gl
      refine ⟨_, rfl, a, _, _, .ref l, rfl, rfl, SqT.of ga1, at1 _ _ _, (by show 0 ≤ sizeLine; decide), fun l0 hl0 => ?_⟩
      have s2 := same_upd (o := .lst []) hl0
      have gl0 : upd H1 l0 (.lst []) l0 = some (.lst []) := upd_same
      have s12 := s1.trans s2
      generalize upd H1 l0 (.lst []) = H2 at s2 gl0 s12
      refine ⟨.list (dExs es), .list [], .lst (SqL.of (s2 _ _ gl1)) (exs_dp ((hus.same hid_old).same s12)), .lst (SqL.of gl0) .nil, shaped_exs we.2 (by omega), by decide +kernel, ?_⟩
      rw [eqv_nil]
      -- a tuple in the list's stead
      have tupl : ∀ (H3 : Hp) (c' : Nat), Old p H H3 → PurseAt H3 p c' → c' ≤ c + 2 * (1 + sizs es) → tTup (tCons (tC (.str "row")) (tCons (tCB (fun xs H Q => ∃ p ys, xs = [.ref p] ∧ ((SqL K H p ys ∧ ∀ l, H l = none → Q (.ref l) (upd H l (.tup ys))) ∨ (SqT K H p ys ∧ Q (.ref p) H))) (tCons (tOp (rIxT K) (tVar 1) (tC (.int 1))) tNil)) tNil)) [some (.ref p), some (.ref a), none] H3 Q := fun H3 c' o3 p3 cc => by
        refine ⟨_, rfl, a, _, _, .ref l, rfl, rfl, SqT.of (o3 _ _ nap ga), at1 _ _ _, l, us, rfl, .inl ⟨SqL.of (o3 _ _ nlp gl), fun r8 hr8 => ⟨(by show 2 ≤ sizeLine; decide), fun r9 hr9 => ?_⟩⟩⟩
        have s8 := same_put (o := .tup us) hr8
        have s9 := same_put (o := .tup [.str "row", .ref r8]) hr9
        have p4 := p3.same s8
        have lt : Laid (hid (upd H3 r8 (.tup us)) p) (.ref r8) (.tup (exTs es)) := .tup (hid_of (np (purse_some p3) hr8) upd_same) (hus.same ((hid1 o3).trans (hid_mono s8)))
        exact q _ (.tup [.v (.str "row"), .tup (exTs es)]) _ (.tup (hid_of (np (purse_some p4) hr9) upd_same) (.cons (.v _) (.cons (lt.same (hid_mono s9)) .nil))) .rowN ((p4.same s9).up cc) (o3.trans (.of_same (s8.trans s9)))
      refine ⟨_, rfl, ite2 (fun _ => iteT (tupl H2 c (.of_same s12) (hp.same s12) (by omega))) (fun he => ?_)⟩
      have hne : es ≠ [] := fun z => he (decide_eq_true z)
      have hpos : 0 < us.length := by
        rw [lus]
        exact List.length_pos_iff.mpr hne
      refine ⟨_, rfl, p, 3, c, rfl, ⟨by decide, by decide⟩, hp.same s12, by omega, fun r H3 r0 r1 p3 bt3 => ⟨rfl, _, rfl, ?_⟩⟩
      have o3 : Old p H H3 := (Old.of_same s12).trans (.of_but bt3)
      refine ite2 (fun _ => tupl H3 (c + 1) o3 p3 (by omega)) (fun _ => ?_)
      have ga3 := o3 _ _ nap ga
      have gl3 := o3 _ _ nlp gl
      refine ⟨_, rfl, _, rfl, a, _, _, .ref l, rfl, rfl, SqT.of ga3, at1 _ _ _, l, us, rfl, .inl (SqL.of gl3), p, _, c + 1, rfl, ⟨by omega, by omega⟩, p3, by omega, fun at' H4 b0 b1 p4 bt4 => ?_⟩
      obtain ⟨i, rfl⟩ := Int.eq_ofNat_of_zero_le b0
      have hi : i < us.length := by omega
      have o4 := o3.trans (Old.of_but bt4)
      have ga4 := o4 _ _ nap ga
      have gl4 := o4 _ _ nlp gl
      refine ⟨_, rfl, a, _, _, .ref l, rfl, rfl, SqT.of ga4, at1 _ _ _, _, rfl, _, rfl, l, us, rfl, SqL.of gl4, fun q1 hq1 => ?_⟩
      have s5 := same_upd (o := .lst (cutV us none (some (i : Int)))) hq1
      have g5 : upd H4 q1 (.lst (cutV us none (some (i : Int)))) q1 = some (.lst (cutV us none (some (i : Int)))) := upd_same
      have p5 := p4.same s5
      have o5 := o4.trans (Old.of_same s5)
      have nq1 : q1 ≠ p := np (purse_some p4) hq1
      generalize upd H4 q1 (.lst (cutV us none (some (i : Int)))) = H5 at s5 g5 p5 o5
      obtain ⟨u, hu'⟩ : ∃ u, us[i]? = some u := ⟨_, List.getElem?_eq_getElem hi⟩
      obtain ⟨e1, he1, le1⟩ := lds_ex (hus.same (hid1 o5)) hu'
      have me1 := List.mem_of_getElem? he1
      have d1 := deps_at me1
      have z1 := sizs_at he1
      refine ⟨_, rfl, _, rfl, a, _, _, .ref l, rfl, rfl, SqT.of (s5 _ _ ga4), at1 _ _ _, _, rfl, l, us, _, u, rfl, rfl, SqL.of (s5 _ _ gl4), atI_nat hu', p, u, e1, c + 2, rfl, le1, wfs_at we.2 me1, by omega, by omega, p5, by omega, fun y t H6 ly fm p6 o6 => ?_⟩
      have lc : (cutV us none (some (i : Int))).length ≤ us.length := by
        unfold cutV
        rw [List.length_take, List.length_drop]
        omega
      have lc2 : (cutV us (some ((i : Int) + 1)) none).length ≤ us.length := by
        unfold cutV
        rw [List.length_take, List.length_drop]
        omega
      refine ⟨(by show 1 ≤ sizeLine; decide), fun q2 hq2 => ?_⟩
      have s7 := same_put (o := .lst [y]) hq2
      have g6 := o6 _ _ nq1 g5
      refine ⟨q1, q2, _, _, rfl, rfl, s7 _ _ g6, upd_same, line_big (by rw [List.length_singleton]; omega), fun q3 hq3 => ?_⟩
      have s8 := same_put (o := .lst (cutV us none (some (i : Int)) ++ [y])) hq3
      have g8 : upd (upd H6 q2 (.lst [y])) q3 (.lst (cutV us none (some (i : Int)) ++ [y])) q3 = some (.lst (cutV us none (some (i : Int)) ++ [y])) := upd_same
      have s78 := s7.trans s8
      generalize upd (upd H6 q2 (.lst [y])) q3 (.lst (cutV us none (some (i : Int)) ++ [y])) = H8 at g8 s78
      have o8 := o5.trans (o6.trans (.of_same s78))
      have p8 := p6.same s78
      refine ⟨_, rfl, a, _, _, .ref l, rfl, rfl, SqT.of (o8 _ _ nap ga), at1 _ _ _, _, rfl, _, _, rfl, rfl, _, rfl, l, us, rfl, SqL.of (o8 _ _ nlp gl), fun q4 hq4 => ?_⟩
      have s9 := same_put (o := .lst (cutV us (some ((i : Int) + 1)) none)) hq4
      refine ⟨q3, q4, _, _, rfl, rfl, s9 _ _ g8, upd_same, line_big (by rw [List.length_append, List.length_singleton]; omega), fun q5 hq5 => ?_⟩
      rw [cut_at hi]
      have s10 := same_put (o := .lst (us.set i y)) hq5
      have g10 : upd (upd H8 q4 (.lst (cutV us (some ((i : Int) + 1)) none))) q5 (.lst (us.set i y)) q5 = some (.lst (us.set i y)) := upd_same
      have p9 := p8.same s9
      have nq5 : q5 ≠ p := np (purse_some p9) hq5
      have s90 := s9.trans s10
      generalize upd (upd H8 q4 (.lst (cutV us (some ((i : Int) + 1)) none))) q5 (.lst (us.set i y)) = H10 at g10 s90
      have p10 := p8.same s90
      have o10 := o8.trans (Old.of_same s90)
      refine ⟨(by show 2 ≤ sizeLine; decide), fun r9 hr9 => ?_⟩
      have s11 := same_put (o := .tup [.str "row", .ref q5]) hr9
      have ll : Lds (hid H10 p) (us.set i y) ((exTs es).set i t) := Lds.set (ly.same (hid_mono (s78.trans s90))) i (hus.same (hid1 o10))
      refine q _ (.tup [.v (.str "row"), .lst ((exTs es).set i t)]) _ (.tup (hid_of (np (purse_some p10) hr9) upd_same) (.cons (.v _) (.cons ((Laid.lst (hid_of nq5 g10) ll).same (hid_mono s11)) .nil))) (fm_row we.2 we.1 (Nat.le_refl _) (by omega) (fm.mono d1)) ((p10.same s11).up (by omega)) (o10.trans (.of_same s11))
end
end L2.K57
set_option Elab.async false
set_option linter.all false
set_option maxRecDepth 100000
set_option maxHeartbeats 4000000
namespace L2.K57
open PySem PySem.Spec PyProof.Rows L2.EV L2
/-! ### frames and what is put into them -/
mutual
theorem hasPl_put {x : Ex} : ∀ e : Ex, hasPl (put x e) = (hasPl e && hasPl x)
  | .wd s => by rw [put, hasPl]; rfl
  | .pl => by rw [put, hasPl]; rfl
  | .ag e => by rw [put, hasPl, hasPl]; exact hasPl_put e
  | .rw es => by rw [put, hasPl, hasPl]; exact anyPl_put es
theorem anyPl_put {x : Ex} : ∀ es : List Ex, anyPl (puts x es) = (anyPl es && hasPl x)
  | [] => by rw [puts, anyPl]; rfl
  | e :: es => by
    rw [puts, anyPl, anyPl, hasPl_put e, anyPl_put es]
    cases hasPl e <;> cases anyPl es <;> cases hasPl x <;> rfl
end
mutual
theorem put_put {x g : Ex} : ∀ e : Ex, put x (put g e) = put (put x g) e
  | .wd s => by rw [put, put, put]
  | .pl => by rw [put, put]
  | .ag e => by rw [put, put, put, put_put e]
  | .rw es => by rw [put, put, put, puts_puts es]
theorem puts_puts {x g : Ex} : ∀ es : List Ex, puts x (puts g es) = puts (put x g) es
  | [] => by rw [puts, puts, puts]
  | e :: es => by rw [puts, puts, puts, put_put e, puts_puts es]
end
mutual
theorem wf_put {x : Ex} (wx : wf x) : ∀ {e : Ex}, wf e → wf (put x e)
  | .wd s, w => by rw [put]; exact w
  | .pl, w => by rw [put]; exact wx
  | .ag e, w => by
    unfold wf at w
    rw [put]
    unfold wf
    exact wf_put wx w
  | .rw es, w => by
    unfold wf at w
    rw [put]
    unfold wf
    exact ⟨by rw [puts_map, List.length_map]; exact w.1, wfs_put wx w.2⟩
theorem wfs_put {x : Ex} (wx : wf x) : ∀ {es : List Ex}, wfs es → wfs (puts x es)
  | [], w => by rw [puts]; exact w
  | e :: es, w => by
    unfold wfs at w
    rw [puts]
    unfold wfs
    exact ⟨wf_put wx w.1, wfs_put wx w.2⟩
end
mutual
theorem dep_put {x : Ex} : ∀ e : Ex, dep (put x e) ≤ dep e + dep x
  | .wd s => by rw [put]; omega
  | .pl => by rw [put, dep]; omega
  | .ag e => by
    rw [put, dep, dep]
    have := dep_put (x := x) e
    omega
  | .rw es => by
    rw [put, dep, dep]
    have := deps_put (x := x) es
    omega
theorem deps_put {x : Ex} : ∀ es : List Ex, deps (puts x es) ≤ deps es + dep x
  | [] => by rw [puts, deps]; omega
  | e :: es => by
    rw [puts, deps, deps]
    have := dep_put (x := x) e
    have := deps_put (x := x) es
    omega
end
mutual
theorem lvs_put {x : Ex} {y : Str} : ∀ e : Ex, y ∈ lvs (put x e) ↔ y ∈ lvs e ∨ (hasPl e = true ∧ y ∈ lvs x)
  | .wd s => by rw [put, hasPl]; simp
  | .pl => by rw [put, hasPl, lvs]; simp
  | .ag e => by rw [put, lvs, lvs, hasPl]; exact lvs_put e
  | .rw es => by rw [put, lvs, lvs, hasPl]; exact lvss_put es
theorem lvss_put {x : Ex} {y : Str} : ∀ es : List Ex, y ∈ lvss (puts x es) ↔ y ∈ lvss es ∨ (anyPl es = true ∧ y ∈ lvs x)
  | [] => by rw [puts, lvss, anyPl]; simp
  | e :: es => by
    rw [puts, lvss, lvss, anyPl, List.mem_append, List.mem_append, lvs_put e, lvss_put es, Bool.or_eq_true]
    constructor
    · rintro ((h | ⟨h1, h2⟩) | (h | ⟨h1, h2⟩))
      · exact .inl (.inl h)
      · exact .inr ⟨.inl h1, h2⟩
      · exact .inl (.inr h)
      · exact .inr ⟨.inr h1, h2⟩
    · rintro ((h | h) | ⟨h1 | h1, h2⟩)
      · exact .inl (.inl h)
      · exact .inr (.inl h)
      · exact .inl (.inr ⟨h1, h2⟩)
      · exact .inr (.inr ⟨h1, h2⟩)
end
/-! ### expressions shown -/
mutual
theorem ex_dpx {H : Hp} : ∀ {e : Ex} {v : V}, ExAt H v e → DpX H v (dEx e)
  | .wd s, v, h => by
    rw [ex_wd h, dEx]
    exact .str s
  | .pl, v, h => by
    obtain ⟨a, rfl, ha⟩ := ex_pl h
    rw [dEx]
    exact .tup ha (.cons (.str _) .nil)
  | .ag e, v, h => by
    obtain ⟨a, u, rfl, ha, hu⟩ := ex_ag h
    rw [dEx]
    exact .tup ha (.cons (.str _) (.cons (ex_dpx hu) .nil))
  | .rw es, v, h => by
    obtain ⟨a, l, us, rfl, ha, hl, hu⟩ := ex_rw h
    rw [dEx]
    exact .tup ha (.cons (.str _) (.cons (.lst hl (exs_dpx hu)) .nil))
theorem exs_dpx {H : Hp} : ∀ {es : List Ex} {us : List V}, Lds H us (exTs es) → DpXs H us (dExs es)
  | [], us, h => by
    cases h
    exact .nil
  | e :: es, us, h => by
    unfold exTs at h
    cases h with
    | cons h1 h2 => exact .cons (ex_dpx h1) (exs_dpx h2)
end
mutual
theorem ex_show : ∀ e : Ex, PyData.showable (dEx e) = true
  | .wd s => by rw [dEx]; simp [PyData.showable]
  | .pl => by rw [dEx]; simp [PyData.showable, PyData.showableAll]
  | .ag e => by rw [dEx]; simp [PyData.showable, PyData.showableAll, ex_show e]
  | .rw es => by rw [dEx]; simp [PyData.showable, PyData.showableAll, exs_show es]
theorem exs_show : ∀ es : List Ex, PyData.showableAll (dExs es) = true
  | [] => by rw [dExs]; simp [PyData.showableAll]
  | e :: es => by rw [dExs]; simp [PyData.showableAll, ex_show e, exs_show es]
end
theorem lit_len {s : Str} (h : ∀ c ∈ s.cps.toList, c < 16 ^ 8) (n : s.length ≤ 5) : (PyData.str s).shown.length ≤ 52 := by
  have := str_le h
  omega
theorem lit_place : (PyData.str "place").shown.length ≤ 52 := lit_len (by decide +kernel) (by decide +kernel)
theorem lit_again : (PyData.str "again").shown.length ≤ 52 := lit_len (by decide +kernel) (by decide +kernel)
theorem lit_row : (PyData.str "row").shown.length ≤ 52 := lit_len (by decide +kernel) (by decide +kernel)
mutual
theorem ex_len : ∀ {e : Ex}, wf e → (dEx e).shown.length + 2 ≤ 200 * siz e
  | .wd s, w => by
    unfold wf at w
    rw [dEx, siz]
    have := str_le w.codes
    have := w.1.2
    omega
  | .pl, w => by
    rw [dEx, siz]
    have h := tuple_le (PyData.shownAll [.str "place"])
    have l := lit_place
    simp only [PyData.shown, PyData.shownAll, piled_cons, piled_nil] at h l ⊢
    omega
  | .ag e, w => by
    unfold wf at w
    have ih := ex_len w
    rw [dEx, siz]
    have h := tuple_le (PyData.shownAll [.str "again", dEx e])
    have l := lit_again
    simp only [PyData.shown, PyData.shownAll, piled_cons, piled_nil] at h l ⊢
    omega
  | .rw es, w => by
    unfold wf at w
    have ih := exs_len w.2
    rw [dEx, siz]
    have h := tuple_le (PyData.shownAll [.str "row", .list (dExs es)])
    have h2 := list_le (PyData.shownAll (dExs es))
    have l := lit_row
    simp only [PyData.shown, PyData.shownAll, piled_cons, piled_nil] at h l ⊢
    omega
theorem exs_len : ∀ {es : List Ex}, wfs es → piled (PyData.shownAll (dExs es)) ≤ 200 * sizs es
  | [], _ => by
    rw [dExs, sizs]
    simp [PyData.shownAll, piled_nil]
  | e :: es, w => by
    unfold wfs at w
    have a := ex_len w.1
    have b := exs_len w.2
    rw [dExs, sizs]
    simp only [PyData.shownAll, piled_cons]
    omega
end
end L2.K57
set_option Elab.async false
set_option linter.all false
set_option maxRecDepth 100000
set_option maxHeartbeats 4000000
namespace L2.K57
open PySem PySem.Spec PyProof.Rows L2.EV L2
/-! ### a frame is right -/
mutual
theorem lvs_word : ∀ {e : Ex} {y : Str}, wf e → y ∈ lvs e → Word y
  | .wd s, y, w, h => by
    unfold wf at w
    rw [lvs] at h
    rw [List.mem_singleton.mp h]
    exact w
  | .pl, y, w, h => by
    rw [lvs] at h
    cases h
  | .ag e, y, w, h => by
    unfold wf at w
    rw [lvs] at h
    exact lvs_word w h
  | .rw es, y, w, h => by
    unfold wf at w
    rw [lvs] at h
    exact lvss_word w.2 h
theorem lvss_word : ∀ {es : List Ex} {y : Str}, wfs es → y ∈ lvss es → Word y
  | [], y, w, h => by
    rw [lvss] at h
    cases h
  | e :: es, y, w, h => by
    unfold wfs at w
    rw [lvss] at h
    rcases List.mem_append.mp h with h | h
    · exact lvs_word w.1 h
    · exact lvss_word w.2 h
end
theorem eqv_words_self (ws : List Str) : PyData.eqv (dWs ws) (dWs ws) = true := by
  show PyData.eqv (.list _) (.list _) = true
  rw [PyData.eqv]
  induction ws with
  | nil => rfl
  | cons x ws ih =>
    rw [List.map_cons, PyData.eqvAll, ih]
    simp [PyData.eqv]
theorem gen_heap {H0 H1 : Hp} {r : Addr} {o : HO} {G : Hp → Prop} (s : Same H0 (upd H1 r o)) (k : ∀ H', Same H0 H' → H' r = some o → G H') : G (upd H1 r o) := k _ s upd_same
abbrev sFr : Stmt := top 40
abbrev pFr : List Str := ["_law_purse_here", "_law_frame", "_law_inner", "_law_expression_here"]
abbrev nFr : List Str := ["_law_purse_here", "_law_frame", "_law_inner", "_law_expression_here", "_law_due", "_law_noted", "_law_wide", "_law_told", "_law_both", "_law_turn", "_law_bent_here"]
theorem scFr : FnScope nFr pFr (defScope sFr) := ⟨rfl, rfl, rfl, by decide +kernel, rfl, by decide +kernel, by decide +kernel⟩
/-- small enough -/
structure Few (e : Ex) : Prop where
  w : wf e
  d : dep e ≤ 4
  t : tips e ≤ 4
  z : siz e ≤ 256
def spFr : Sp := fun vs H Q _ => ∃ (p : Addr) (v u x : V) (f g e : Ex) (c : Nat), vs = [.ref p, v, u, x] ∧ Laid (hid H p) v (exT f) ∧ Laid (hid H p) u (exT g) ∧ Laid (hid H p) x (exT e) ∧ Few f ∧ Few g ∧ Few e ∧ hasPl f = true ∧ hasPl g = true ∧ hasPl e = false ∧ PurseAt H p c ∧ c < 2 ^ 43 ∧
  ∀ H', Old p H H' → PurseAt H' p (c + 2000) → Q (.bl true) H'
structure Rq (P : Program) (w : World) (K : PySem.W.Frag) (mg : Str → Option Value) (base : Heap) : Prop where
  Pt : Got P w K mg base 42 "_law_put" pPt (spPt 16)
  Ll : Got P w K mg base 17 "_law_leaves" ["_law_expression_here"] (spLl 16)
  Ln : Got P w K mg base 17 "_law_nest" ["_law_expression_here"] (spLn 16)
  Pi : Got P w K mg base 19 "put_in" pEw spPi
  Ie : Got P w K mg base 18 "is_expression" ["value"] spIe
  Ip : Got P w K mg base 19 "is_open" ["value"] spIo
  Ji : Got P w K mg base 19 "jobs_in" ["expression"] spJi
  Ns : Got P w K mg base 19 "nesting" ["expression"] (spNe N0)
  Ex : Got P w K mg base 33 "_law_exact" pEx (spEx 32)
  Bn : Got P w K mg base 20 "_law_bent" pBn (spBn 16)
  Sp : Got P w K mg base 33 "_law_spoilt" ["_law_thing"] (spSp 32)
  mL : mg "len" = none
  mR : mg "range" = none
  mRp : mg "repr" = none
  mSe : mg "set" = none
  mSo : mg "sorted" = none
  sys : (K.lookup sysModules).isSome = true
section
variable {P : Program} {w : World} {K : PySem.W.Frag} {mg : Str → Option Value} {base : Heap} {f : Addr} {fd : FuncData}
theorem ok_fr (F : FnP K "_law_frame_right" sFr f fd) (R : Rq P w K mg base) : FnG P w K mg base 44 f fd pFr spFr := by
  refine fnG_of (k := 43) F scFr (fun vs H Q E h => ?_) (fun cdv A outer s H vs Q E hgd hr h => ?_)
  · obtain ⟨p, v, u, x, f, g, e, c, rfl, _⟩ := h
    rfl
  · obtain ⟨p, v, u, x, f, g, e, c, rfl, hv, hu2, hx, ff, fg, fe, pf, pg, pe, hp, hc, q⟩ := h
    have hu := hr.units
    have n0 : N0 = 16 := rfl
    refine ⟨_, PSs.nox ((pss_cons (ps_par (i := 4) (j := 5) rfl scFr.nd rfl rfl (by decide) rfl rfl (pa_cons (pe_got R.Pt hr (pa_cons (pv 1) (pa_cons (pv 3) pa_nil))) (pa_cons (pe_callB (call_repr hgd hu R.sys) (by rfl) R.mRp (by decide +kernel) (pa_cons (pe_lst (pa_cons (pv 1) (pa_cons (pv 2) (pa_cons (pv 3) pa_nil)))) pa_nil)) pa_nil)) (by rfl))
      (pss_cons (ps_set (i := 6) scFr.nd rfl (by first | exact Or.inl rfl | exact Or.inr rfl) (pe_got R.Pt hr (pa_cons (pe_got R.Pt hr (pa_cons (pv 1) (pa_cons (pv 2) pa_nil))) (pa_cons (pv 3) pa_nil))))
      (pss_cons (ps_if (PW.pt (pw_or (pt_cmpR op_gt (pe_callB call_len_seq (by rfl) R.mL PySem.boot_len (pa_cons (pe_got R.Ll hr (pa_cons (pv 6) pa_nil)) pa_nil)) pe_int (nomark _)) (pw_or1 (pt_cmpR op_gt (pe_got R.Ln hr (pa_cons (pv 6) pa_nil)) pe_int (nomark _))))) (pss_one (ps_ret pe_bl)) pss_nil)
      (pss_cons (ps_set (i := 7) scFr.nd rfl (by first | exact Or.inl rfl | exact Or.inr rfl) (pe_got R.Pi hr (pa_cons (pv 1) (pa_cons (pv 3) pa_nil))))
      (pss_cons (ps_if (PW.pt (pw_or (pt_not (pt_val (pe_got R.Ex hr (pa_cons (pv 7) (pa_cons (pv 4) pa_nil))))) (pw_or (pt_cmpR op_isnot_bl (pe_got R.Ie hr (pa_cons (pv 7) pa_nil)) pe_bl (by rfl)) (pw_or1 (pt_cmpR op_isnot_bl (pe_got R.Ip hr (pa_cons (pv 1) pa_nil)) pe_bl (by rfl)))))) (pss_one (ps_ret pe_bl)) pss_nil)
      (pss_cons (ps_set (i := 8) scFr.nd rfl (by first | exact Or.inl rfl | exact Or.inr rfl) (pe_callB (cr_sortedX rfl hu) (by rfl) R.mSo (by decide +kernel) (pa_cons (pe_callTy (cr_setX rfl) (by rfl) R.mSe (by decide +kernel) (pa_cons (pe_op op_cat (pe_got R.Ll hr (pa_cons (pv 1) pa_nil)) (pe_got R.Ll hr (pa_cons (pv 3) pa_nil))) pa_nil)) pa_nil)))
      (pss_cons (ps_if (PW.pt (pw_or (pt_cmpR (op_neD hu) (pe_got R.Ji hr (pa_cons (pv 7) pa_nil)) (pv 8) (nomark _)) (pw_or (pt_cmpR op_ne (pe_got R.Ns hr (pa_cons (pv 7) pa_nil)) (pe_got R.Ln hr (pa_cons (pv 4) pa_nil)) (nomark _)) (pw_or1 (pt_cmpR op_isnot_bl (pe_got R.Ip hr (pa_cons (pv 3) pa_nil)) pe_bl (by rfl)))))) (pss_one (ps_ret pe_bl)) pss_nil)
      (pss_cons (ps_if (pt_not (pt_val (pe_got R.Ex hr (pa_cons (pe_got R.Pi hr (pa_cons (pe_got R.Pt hr (pa_cons (pv 1) (pa_cons (pv 2) pa_nil))) (pa_cons (pv 3) pa_nil))) (pa_cons (pe_got R.Pt hr (pa_cons (pv 1) (pa_cons (pe_got R.Pt hr (pa_cons (pv 2) (pa_cons (pv 3) pa_nil))) pa_nil))) pa_nil))))) (pss_one (ps_ret pe_bl)) pss_nil)
      (pss_cons (ps_for PassesOwn.never rfl (pi_range1 (by rfl) R.mR (pa_cons pe_int pa_nil)) (pg_name (i := 9) scFr.nd rfl (by first | exact Or.inl rfl | exact Or.inr rfl)) (pss_cons (ps_set (i := 10) scFr.nd rfl (by first | exact Or.inl rfl | exact Or.inr rfl) (pe_got R.Bn hr (pa_cons (pv 0) (pa_cons (pv 1) pa_nil)))) (pss_one (ps_if (pt_cmpR op_isnot_bl (pe_got R.Ip hr (pa_cons (pv 10) pa_nil)) pe_bl (by rfl)) (pss_one (ps_ret pe_bl)) pss_nil))))
      (pss_cons (ps_expr (pe_got R.Sp hr (pa_cons (pv 7) pa_nil)))
      (pss_one (ps_ret (pe_and (pe_cmpR op_eq (pe_callB (call_repr hgd hu R.sys) (by rfl) R.mRp (by decide +kernel) (pa_cons (pe_lst (pa_cons (pv 1) (pa_cons (pv 2) (pa_cons (pv 3) pa_nil)))) pa_nil)) (pv 5) (nomark _)) (pe_one (pe_got R.Ex hr (pa_cons (pe_got R.Pi hr (pa_cons (pv 1) (pa_cons (pv 3) pa_nil))) (pa_cons (pv 4) pa_nil)))))))))))))))))), ?_⟩
    have hv0 := hv.same hid_old
    have hu0 := hu2.same hid_old
    have hx0 := hx.same hid_old
    have hp0 := purse_some hp
    have f1 := ff.d
    have f2 := fg.d
    have f3 := fe.d
    have t1 := ff.t
    have t2 := fg.t
    have t3 := fe.t
    have z1 := ff.z
    have z2 := fg.z
    have z3 := fe.z
    -- the trees
    obtain ⟨A1, eA1⟩ : ∃ A1, A1 = put e f := ⟨_, rfl⟩
    obtain ⟨A2, eA2⟩ : ∃ A2, A2 = put g f := ⟨_, rfl⟩
    obtain ⟨A3, eA3⟩ : ∃ A3, A3 = put e A2 := ⟨_, rfl⟩
    obtain ⟨A4, eA4⟩ : ∃ A4, A4 = put e g := ⟨_, rfl⟩
    have w1 : wf A1 := by rw [eA1]; exact wf_put fe.w ff.w
    have w2 : wf A2 := by rw [eA2]; exact wf_put fg.w ff.w
    have w3 : wf A3 := by rw [eA3]; exact wf_put fe.w w2
    have w4 : wf A4 := by rw [eA4]; exact wf_put fe.w fg.w
    have d1 : dep A1 ≤ 8 := by rw [eA1]; have := dep_put (x := e) f; omega
    have d2 : dep A2 ≤ 8 := by rw [eA2]; have := dep_put (x := g) f; omega
    have d3 : dep A3 ≤ 12 := by rw [eA3]; have := dep_put (x := e) A2; omega
    have d4 : dep A4 ≤ 8 := by rw [eA4]; have := dep_put (x := e) g; omega
    have l1 : (lvs A1).length ≤ 900 := by
      have a := lvs_tips A1
      have b : tips A1 ≤ tips f * tips e := by rw [eA1]; exact tips_put f
      have c' : tips f * tips e ≤ 4 * 4 := Nat.mul_le_mul t1 t3
      omega
    have l3 : (lvs A3).length ≤ 900 := by
      have a := lvs_tips A3
      have b : tips A3 ≤ tips A2 * tips e := by rw [eA3]; exact tips_put A2
      have b2 : tips A2 ≤ tips f * tips g := by rw [eA2]; exact tips_put f
      have c' : tips f * tips g ≤ 4 * 4 := Nat.mul_le_mul t1 t2
      have c2 : tips A2 * tips e ≤ 16 * 4 := Nat.mul_le_mul (by omega) t3
      omega
    have lf : (lvs f).length ≤ 4 := Nat.le_trans (lvs_tips f) t1
    have le : (lvs e).length ≤ 4 := Nat.le_trans (lvs_tips e) t3
    have p1 : hasPl A1 = false := by rw [eA1, hasPl_put, pe, Bool.and_false]
    have p2 : hasPl A2 = true := by rw [eA2, hasPl_put, pf, pg]; rfl
    have e34 : put A4 f = A3 := by rw [eA3, eA4, eA2, put_put]
    -- shown
    obtain ⟨D0, eD0⟩ : ∃ D0, D0 = PyData.list [dEx f, dEx g, dEx e] := ⟨_, rfl⟩
    have shows : D0.showable = true ∧ D0.shown.length ≤ sizeLine ∧ D0.depth ≤ 60 := by
      have a := ex_len ff.w
      have b := ex_len fg.w
      have c' := ex_len fe.w
      have h2 := list_le (PyData.shownAll [dEx f, dEx g, dEx e])
      obtain ⟨_, y1⟩ := lay_ex ff.w
      obtain ⟨_, y2⟩ := lay_ex fg.w
      obtain ⟨_, y3⟩ := lay_ex fe.w
      rw [eD0]
      refine ⟨by simp [PyData.showable, PyData.showableAll, ex_show], ?_, ?_⟩
      · rw [sizeLine_eq]
        simp only [PyData.shown, PyData.shownAll, piled_cons, piled_nil] at h2 ⊢
        omega
      · simp [PyData.depth, PyData.depthAll]
        omega
    have dpx : ∀ {H' : Hp} {r : Addr}, ExAt H' v f → ExAt H' u g → ExAt H' x e → H' r = some (.lst [v, u, x]) → DpX H' (.ref r) D0 := fun {H' r} a b c' gr => by
      rw [eD0]
      exact .lst gr (.cons (ex_dpx a) (.cons (ex_dpx b) (.cons (ex_dpx c') .nil)))
    -- the run
    refine ⟨_, rfl, _, rfl, v, x, f, e, rfl, hv0, hx0, ff.w, fe.w, by omega, by omega, by omega, fun y1 H1 s1 k1 => ?_⟩
    rw [← eA1] at k1
    refine ⟨_, rfl, _, rfl, _, rfl, (by show 3 ≤ sizeLine; decide), fun r1 hr1 => ?_⟩
    have s2 := same_put (o := .lst [v, u, x]) hr1
    have g2 : upd H1 r1 (.lst [v, u, x]) r1 = some (.lst [v, u, x]) := upd_same
    have c2 := s1.trans s2
    have k1' := k1.same (nw_right s2)
    generalize upd H1 r1 (.lst [v, u, x]) = H2 at s2 g2 c2 k1'
    refine ⟨.ref r1, D0, rfl, dpx (hv0.same c2) (hu0.same c2) (hx0.same c2) g2, shows.1, shows.2.1, shows.2.2, _, _, rfl, ?_⟩
    refine ⟨_, rfl, _, rfl, v, u, f, g, rfl, hv0.same c2, hu0.same c2, ff.w, fg.w, by omega, by omega, by omega, fun y2 H3 s3 k2 => ?_⟩
    rw [← eA2] at k2
    have c3 := c2.trans s3
    refine ⟨_, rfl, y2, x, A2, e, rfl, k2.same nw_old, hx0.same c3, w2, fe.w, by omega, by omega, by omega, fun y3 H4 s4 k3 => ?_⟩
    rw [← eA3] at k3
    have c4 := c3.trans s4
    refine ⟨_, rfl, y3, A3, rfl, k3.same nw_old, w3, by omega, by omega, l3, fun r5 H5 s5 _ g5 => ?_⟩
    have c5 := c4.trans s5
    refine ⟨r5, _, rfl, .inl (SqL.of g5), _, _, rfl, rfl, _, rfl, ite2 (fun _ => iteT (q H5 (.of_same c5) ((hp.same c5).up (by omega)))) (fun _ => ?_)⟩
    refine ⟨_, rfl, y3, A3, rfl, (k3.same nw_old).same s5, w3, by omega, by omega, fun H6 s6 => ?_⟩
    have c6 := c5.trans s6
    refine ⟨_, _, rfl, rfl, _, rfl, ite2 (fun _ => q H6 (.of_same c6) ((hp.same c6).up (by omega))) (fun _ => ?_)⟩
    refine ⟨_, rfl, _, rfl, v, x, f, e, rfl, hv0.same c6, hx0.same c6, ff.w, fe.w, pf, pe, (by show dep f + dep e ≤ 16; omega), fun y7 H7 s7 k7 => ?_⟩
    rw [← eA1] at k7
    have c7 := c6.trans s7
    have c26 : Same H2 H6 := s3.trans (s4.trans (s5.trans s6))
    have due6 := k1'.same (nw_right c26)
    have due7 : Laid H7 y1 (exT A1) := (due6.same nw_old).same s7
    have alk7 := alk_two (n := 32) ((pl_ex w1).mono (by omega)) k7.laid due7
    refine ⟨_, rfl, _, rfl, y7, y1, rfl, alk7, fun H8 s8 => ⟨true, rfl, iteF ?_⟩⟩
    have told8 := k7.laid.same s8
    refine ⟨_, rfl, y7, A1, rfl, told8, w1, by omega, fun H9 s9 => ⟨_, _, rfl, rfl, _, rfl, ?_⟩⟩
    rw [p1]
    refine iteF ?_
    have c9 := c7.trans (s8.trans s9)
    refine ⟨_, rfl, v, rfl, .inr ⟨f, hv0.same c9, ff.w, by omega, fun H10 s10 => ⟨_, _, rfl, rfl, _, rfl, ?_⟩⟩⟩
    rw [pf]
    refine iteF ?_
    have c10 := c9.trans s10
    -- both
    refine ⟨_, rfl, v, f, rfl, hv0.same c10, ff.w, by omega, by omega, by omega, fun r11 H11 s11 _ g11 => ?_⟩
    have c11 := c10.trans s11
    refine ⟨_, rfl, x, e, rfl, hx0.same c11, fe.w, by omega, by omega, by omega, fun r12 H12 s12 _ g12 => ?_⟩
    have c12 := c11.trans s12
    refine ⟨r11, r12, _, _, rfl, rfl, s12 _ _ g11, g12, line_big (by rw [List.length_map, List.length_map]; omega), fun r13 hr13 => ?_⟩
    have s13 := same_put (o := .lst ((lvs f).map V.str ++ (lvs e).map V.str)) hr13
    have g13 : upd H12 r13 (.lst ((lvs f).map V.str ++ (lvs e).map V.str)) r13 = some (.lst ((lvs f ++ lvs e).map V.str)) := by rw [upd_same, List.map_append]
    generalize upd H12 r13 (.lst ((lvs f).map V.str ++ (lvs e).map V.str)) = H13 at s13 g13
    have c13 := c12.trans s13
    refine ⟨r13, lvs f ++ lvs e, rfl, SqL.of g13, by rw [List.length_append]; omega, fun r14 L hr14 ndL memL fewL => ?_⟩
    rw [List.length_append] at fewL
    refine ⟨r14, L, rfl, upd_same, by omega, fun r15 hr15 => ?_⟩
    have s15 := same_put (o := .lst ((srtW L).map V.str)) hr15
    have s135 := (same_put hr14).trans s15
    refine gen_heap s135 fun H15 s135 g15 => ?_
    have c15 := c13.trans s135
    have c7_15 : Same H7 H15 := s8.trans (s9.trans (s10.trans (s11.trans (s12.trans (s13.trans s135)))))
    have told15 := k7.laid.same c7_15
    refine ⟨_, rfl, y7, A1, rfl, told15, w1, by omega, l1, fun r16 L2 H16 s16 ndL2 memL2 _ g16 => ?_⟩
    have c16 := c15.trans s16
    have wordL : ∀ y, y ∈ L → Word y := fun y hy => by
      rcases List.mem_append.mp ((memL y).mp hy) with h | h
      · exact lvs_word ff.w h
      · exact lvs_word fe.w h
    have wordL2 : ∀ y, y ∈ L2 → Word y := fun y hy => lvs_word w1 ((memL2 y).mp hy)
    have same2 : srtW L2 = srtW L := srtW_eq ((List.perm_ext_iff_of_nodup ndL2 ndL).mpr fun y => by
      rw [memL, memL2, eA1, lvs_put, List.mem_append]
      constructor
      · rintro (h | ⟨_, h⟩)
        · exact .inl h
        · exact .inr h
      · rintro (h | h)
        · exact .inl h
        · exact .inr ⟨pf, h⟩)
    have ws : ∀ y ∈ srtW L, Word y := fun y hy => wordL y ((srtW_perm L).mem_iff.mp hy)
    rw [same2] at g16
    refine ⟨_, rfl, dWs (srtW L), dWs (srtW L), .lst (SqL.of g16) (dp_words _), .lst (SqL.of (s16 _ _ g15)) (dp_words _), shaped_words ws, shaped_words ws, _, rfl, ?_⟩
    rw [eqv_words_self]
    refine iteF ?_
    have told16 := told15.same s16
    refine ⟨_, rfl, y7, A1, rfl, told16, w1, by omega, fun H17 s17 => ?_⟩
    have c7_16 := c7_15.trans s16
    refine ⟨_, rfl, y1, A1, rfl, due7.same (c7_16.trans s17), w1, by omega, by omega, fun H18 s18 => ⟨rfl, _, rfl, ?_⟩⟩
    rw [decide_eq_true rfl]
    refine iteF ?_
    have c18 := c16.trans (s17.trans s18)
    refine ⟨_, rfl, x, rfl, .inr ⟨e, hx0.same c18, fe.w, by omega, fun H19 s19 => ⟨_, _, rfl, rfl, _, rfl, ?_⟩⟩⟩
    rw [pe]
    refine iteF ?_
    have c19 := c18.trans s19
    -- both ways
    refine ⟨_, rfl, _, rfl, v, u, f, g, rfl, hv0.same c19, hu0.same c19, ff.w, fg.w, by omega, by omega, by omega, fun y20 H20 s20 k20 => ?_⟩
    rw [← eA2] at k20
    have c20 := c19.trans s20
    refine ⟨_, rfl, y20, x, A2, e, rfl, k20.same nw_old, hx0.same c20, w2, fe.w, p2, pe, (by show dep A2 + dep e ≤ 16; omega), fun y21 H21 s21 k21 => ?_⟩
    rw [← eA3] at k21
    have c21 := c20.trans s21
    refine ⟨_, rfl, _, rfl, _, rfl, u, x, g, e, rfl, hu0.same c21, hx0.same c21, fg.w, fe.w, by omega, by omega, by omega, fun y22 H22 s22 k22 => ?_⟩
    rw [← eA4] at k22
    have c22 := c21.trans s22
    refine ⟨v, y22, f, A4, rfl, hv0.same c22, k22.same nw_old, ff.w, w4, by omega, by omega, by omega, fun y23 H23 s23 k23 => ?_⟩
    rw [e34] at k23
    have c23 := c22.trans s23
    have alk23 := alk_two (n := 32) ((pl_ex w3).mono (by omega)) (k21.laid.same (s22.trans s23)) (k23.same nw_old)
    refine ⟨y21, y23, rfl, alk23, fun H24 s24 => ⟨true, rfl, iteF ?_⟩⟩
    have c24 := c23.trans s24
    have c6_24 : Same H6 H24 := s7.trans (c7_16.trans (s17.trans (s18.trans (s19.trans (s20.trans (s21.trans (s22.trans (s23.trans s24))))))))
    have c7_24 : Same H7 H24 := c7_16.trans (s17.trans (s18.trans (s19.trans (s20.trans (s21.trans (s22.trans (s23.trans s24)))))))
    -- bent ones
    refine ⟨(3 : Int), rfl, by decide, by decide, ?_⟩
    refine for_range (fun i σ H' => (∃ v9 v10, σ = [some (.ref p), some v, some u, some x, some y1, some (.str D0.shown), some y3, some y7, some (.ref r15), v9, v10]) ∧ Old p H24 H' ∧ PurseAt H' p (c + 512 * i)) ⟨⟨_, _, rfl⟩, Old.refl _ _, hp.same c24⟩ ?_ ?_
    · rintro i σ H' hi ⟨⟨v9, v10, rfl⟩, o', p'⟩
      have i3 : i < 3 := hi
      have o0' : Old p H H' := (Old.of_same c24).trans o'
      have hidv : Laid (hid H' p) v (exT f) := hv.same fun b o z => hid_of (hid_some z).1 (o0' b o (hid_some z).1 (hid_some z).2)
      refine ⟨_, rfl, _, rfl, p, v, f, _, rfl, hidv, ff.w, by omega, by omega, p', by omega, fun y25 t25 H25 k25 fm25 p25 o25 => ?_⟩
      refine ⟨_, rfl, y25, rfl, .inl ⟨t25, k25.same hid_old, fm25.mono (by show dep f ≤ 16; omega), fun H26 s26 => ⟨_, _, rfl, rfl, _, rfl, iteF ?_⟩⟩⟩
      exact ⟨⟨_, _, rfl⟩, o'.trans (o25.trans (.of_same s26)), (p25.same s26).up (by omega)⟩
    · rintro σ H27 ⟨⟨v9, v10, rfl⟩, o27, p27⟩
      have hp6 : H6 p ≠ none := purse_some (hp.same c6)
      have told27 : FL H27 y7 (exT A1) (nwA H6 H7) := k7.on fun b o z eb => o27 b o (fun w' => hp6 (w' ▸ z.1)) (c7_24 _ _ eb)
      refine ⟨_, rfl, y7, exT A1, _, rfl, told27, (pl_ex w1).mono (by omega), fun H28 kp => ?_⟩
      have stay : ∀ b o, b ≠ p → H6 b = some o → H28 b = some o := fun b o n z => kp b o (fun w' => by
        have := w'.1
        rw [z] at this
        cases this) (o27 b o n (c6_24 _ _ z))
      have p28 : PurseAt H28 p (c + 512 * 3) := by
        obtain ⟨a1, a2, a3, a4, g, r⟩ := p27
        exact ⟨a1, a2, a3, a4, kp _ _ (fun w' => hp6 w'.1) g, r⟩
      have o28 : Old p H H28 := fun b o n z => stay b o n (c6 _ _ z)
      have up : ∀ {y : V} {t : T}, Laid (hid H p) y t → Laid H28 y t := fun k => k.same fun b o z => o28 b o (hid_some z).1 (hid_some z).2
      have due28 : Laid H28 y1 (exT A1) := due6.same fun b o z => stay b o (fun w' => hp0 (w' ▸ (nw_some z).1)) (nw_some z).2
      refine ⟨_, rfl, _, rfl, _, rfl, (by show 3 ≤ sizeLine; decide), fun r29 hr29 => ?_⟩
      have s29 := same_put (o := .lst [v, u, x]) hr29
      have g29 : upd H28 r29 (.lst [v, u, x]) r29 = some (.lst [v, u, x]) := upd_same
      generalize upd H28 r29 (.lst [v, u, x]) = H29 at s29 g29
      refine ⟨.ref r29, D0, rfl, dpx ((up hv).same s29) ((up hu2).same s29) ((up hx).same s29) g29, shows.1, shows.2.1, shows.2.2, _, rfl, rfl, ?_⟩
      rw [decide_eq_true rfl]
      refine ⟨_, rfl, iteT ?_⟩
      refine ⟨_, rfl, _, rfl, v, x, f, e, rfl, (up hv).same s29, (up hx).same s29, ff.w, fe.w, pf, pe, (by show dep f + dep e ≤ 16; omega), fun y30 H30 s30 k30 => ?_⟩
      rw [← eA1] at k30
      have alk30 := alk_two (n := 32) ((pl_ex w1).mono (by omega)) k30.laid (due28.same (s29.trans s30))
      refine ⟨_, rfl, y30, y1, rfl, alk30, fun H31 s31 => ?_⟩
      have s2831 := s29.trans (s30.trans s31)
      exact q H31 (o28.trans (.of_same s2831)) ((p28.same s2831).up (by omega))
end
end L2.K57
set_option Elab.async false
set_option linter.all false
set_option maxRecDepth 100000
set_option maxHeartbeats 4000000
namespace L2.K57
open PySem PySem.Spec PyProof.Rows L2.EV L2
/-! ### displays of jobs -/
structure Jb where
  w : Nat → Str
  t : T
def Sj (b : Bool) (a : Jb) (σ : St) (H : Hp) : Prop := (∃ l xs, σ[2]? = some (some (V.ref l)) ∧ H l = some (.lst xs) ∧ ∀ i, i < 3 → xs[i]? = some (V.str (a.w i))) ∧ (b = true → ∃ x, σ[8]? = some (some x) ∧ Laid H x a.t)
theorem Sj.same {b : Bool} {a : Jb} {σ : St} {H H' : Hp} (h : Sj b a σ H) (s : Same H H') : Sj b a σ H' := by
  obtain ⟨⟨l, xs, e, g, k⟩, h2⟩ := h
  refine ⟨⟨l, xs, e, s _ _ g, k⟩, fun hb => ?_⟩
  obtain ⟨x, ex, lx⟩ := h2 hb
  exact ⟨x, ex, lx.same s⟩
def tJ (b : Bool) (t : Jb → T) : TE := fun σ H Q => ∃ a, Sj b a σ H ∧ ∀ x H', Same H H' → Laid H' x (t a) → Q x H'
def tJs (b : Bool) (ts : Jb → List T) : TA := fun σ H Q => ∃ a, Sj b a σ H ∧ ∀ xs H', Same H H' → Lds H' xs (ts a) → Q xs H'
theorem tJ_to {b c : Bool} (u : Jb → T) {t : Jb → T} (h : b = c := by rfl) (e : u = t := by first | rfl | (funext a; simp [exT, exTs, put, puts])) : ∀ σ H Q, tJ b u σ H Q → tJ c t σ H Q := by
  subst h e
  exact fun _ _ _ h => h
section
variable {X : Cx} {pos : Pos} {b : Bool}
theorem pJ_str {x : Str} {k : Nat} : PE X (.Constant (.str x) k pos) (tJ b fun _ => .v (.str x)) := PE.imp pe_str fun σ H Q ⟨_, _, q⟩ => q _ _ Same.rfl' (.v _)
theorem pJ_job {i : Nat} {k : Nat} {e : Expr} {p : Pos} (hi : i < 3) (he : PE X e (tVar 2)) (hs : PlainIx (.Constant (.int (i : Int)) k p) := by exact fun _ _ => rfl) : PE X (.Subscript e (.Constant (.int (i : Int)) k p) pos) (tJ b fun a => .v (.str (a.w i))) :=
  PE.imp (pe_ix ix_list he pe_int hs) fun σ H Q ⟨a, ⟨⟨l, xs, e, g, n⟩, _⟩, q⟩ => ⟨_, e, l, xs, _, _, rfl, rfl, SqL.of g, atI_nat (n i hi), q _ _ Same.rfl' (.v _)⟩
theorem pJ_in {e : Expr} (he : PE X e (tVar 8)) : PE X e (tJ true fun a => a.t) := PE.imp he fun σ H Q ⟨a, ⟨_, h⟩, q⟩ => by
  obtain ⟨x, ex, lx⟩ := h rfl
  exact ⟨x, ex, q _ _ Same.rfl' lx⟩
theorem pJa_nil : PA X [] (tJs b fun _ => []) := PA.imp pa_nil fun σ H Q ⟨_, _, q⟩ => q [] H Same.rfl' .nil
theorem pJa_cons {e : Expr} {es : List Expr} {t : Jb → T} {ts : Jb → List T} (he : PE X e (tJ b t)) (hr : PA X es (tJs b ts)) (hs : starEach (e :: es) X.env = (false, eval e X.env) :: starEach es X.env := by rfl) : PA X (e :: es) (tJs b fun a => t a :: ts a) :=
  PA.imp (pa_cons he hr hs) fun σ H Q ⟨a, h, q⟩ => ⟨a, h, fun x H1 s1 l1 => ⟨a, h.same s1, fun xs H2 s2 l2 => q _ _ (s1.trans s2) (.cons (l1.same s2) l2)⟩⟩
theorem pJ_tup {es : List Expr} {ts : Jb → List T} {c : Nat} (h : PA X es (tJs b ts)) (hz : ∀ a, (ts a).length ≤ 1000 := by exact fun _ => Nat.le_of_ble_eq_true rfl) : PE X (.Tuple es c pos) (tJ b fun a => .tup (ts a)) := PE.imp (pe_tup h) fun σ H Q ⟨a, g, q⟩ => ⟨a, g, fun xs H1 s1 l => ⟨line_big (by rw [← l.length]; exact hz a), fun p hp => by
  have s2 := same_put (o := .tup xs) hp
  exact q _ _ (s1.trans s2) (.tup upd_same (l.same s2))⟩⟩
theorem pJ_lst {es : List Expr} {ts : Jb → List T} (h : PA X es (tJs b ts)) (hz : ∀ a, (ts a).length ≤ 1000 := by exact fun _ => Nat.le_of_ble_eq_true rfl) : PE X (.List es pos) (tJ b fun a => .lst (ts a)) := PE.imp (pe_lst h) fun σ H Q ⟨a, g, q⟩ => ⟨a, g, fun xs H1 s1 l => ⟨line_big (by rw [← l.length]; exact hz a), fun p hp => by
  have s2 := same_put (o := .lst xs) hp
  exact q _ _ (s1.trans s2) (.lst upd_same (l.same s2))⟩⟩
end
/-! ### the law -/
abbrev sLaw : Stmt := top 41
abbrev nLaw : List Str := ["_law_script", "_law_purse_here", "_law_jobs", "_law_turn", "_law_some", "_law_part", "_law_wide", "_law_told", "_law_inner", "_law_due"]
theorem scLaw : FnScope nLaw ["_law_script"] (defScope sLaw) := ⟨rfl, rfl, rfl, by decide +kernel, rfl, by decide +kernel, by decide +kernel⟩
def spLaw (K : PySem.W.Frag) : Sp := fun vs H Q _ => ∃ (a : Addr) (ns : List Int), vs = [.ref a] ∧ SqL K H a (ns.map V.int) ∧ ns.length ≤ 63 ∧ ∀ H', Q (.bl true) H'
structure Rl (P : Program) (w : World) (K : PySem.W.Frag) (mg : Str → Option Value) (base : Heap) : Prop where
  Pu : Got P w K mg base 2 "_law_purses" ["_law_script", "_law_few"] (spPurses K)
  Wd : Got P w K mg base 4 "_law_words" ["_law_purse_here", "_law_many"] spWords
  D : Got P w K mg base 2 "_law_draw" ["_law_purse_here", "_law_many"] spDraw
  Xp : Got P w K mg base 9 "_law_expression" pXp (spXp 5)
  Pd : Got P w K mg base 11 "_law_placed" pPd (spPd 8)
  Pi : Got P w K mg base 19 "put_in" pEw spPi
  Ip : Got P w K mg base 19 "is_open" ["value"] spIo
  Ex : Got P w K mg base 33 "_law_exact" pEx (spEx 32)
  mR : mg "range" = none
section
variable {P : Program} {w : World} {K : PySem.W.Frag} {mg : Str → Option Value} {base : Heap} {f fF : Addr} {fd fdF : FuncData}
theorem ok_law (F : FnP K "law" sLaw f fd) (R : Rl P w K mg base) (GF : FnG P w K mg base 44 fF fdF pFr spFr) (gF : mg "_law_frame_right" = some (.ref fF)) (kF : PySem.W.keepIn K (.ref fF) = true) (bF : Binds K fdF pFr []) : FnG P w K mg base 45 f fd ["_law_script"] (spLaw K) := by
  refine fnG_of (k := 44) F scLaw (fun vs H Q E h => ?_) (fun cdv A outer s H vs Q E hgd hr h => ?_)
  · obtain ⟨a, ns, rfl, _⟩ := h
    rfl
  · obtain ⟨a, ns, rfl, hS, hl63, q⟩ := h
    have hu := hr.units
    have hr44 := hr.mono (show 44 ≤ 44 by decide)
    refine ⟨_, PSs.nox (pss_cons (ps_for PassesOwn.never rfl (pi_list (pe_got R.Pu hr (pa_cons (pv 0) (pa_cons pe_int pa_nil)))) (pg_name (i := 1) scLaw.nd rfl (by first | exact Or.inl rfl | exact Or.inr rfl)) (pss_cons (ps_set (i := 2) scLaw.nd rfl (by first | exact Or.inl rfl | exact Or.inr rfl) (pe_got R.Wd hr (pa_cons (pv 1) (pa_cons pe_int pa_nil))))
        (pss_cons (ps_for PassesOwn.never rfl (pi_range1 (by rfl) R.mR (pa_cons pe_int pa_nil)) (pg_name (i := 3) scLaw.nd rfl (by first | exact Or.inl rfl | exact Or.inr rfl)) (pss_cons (ps_setLc (i := 4) (own := [("_law_part", 5)]) (g := gName 5) (tt := tYes) (te := tCall (spXp 5) [] E0 (tCons (tVar 1) (tCons (tVar 2) (tCons (tC (.int 2)) (tCons (tOp (rI0 fun i j => .int (i + j)) (tC (.int 1)) (tCall spDraw [] E0 (tCons (tVar 1) (tCons (tC (.int 4)) tNil)))) tNil))))) (by rfl) scLaw.nd rfl rfl (by rfl) (pi_range1 (by rfl) R.mR (pa_cons pe_int pa_nil)) (blkOk_by (own := [("_law_part", 5)]) (N := nLaw) (sc := defScope sLaw) (by decide +kernel)) (fun _ _ _ _ _ => pg_name (i := 5) scLaw.nd rfl (Or.inl rfl)) (fun _ _ _ _ _ => pts_nil) (fun _ _ _ _ _ => (pe_got R.Xp hr (pa_cons (pv 1) (pa_cons (pv 2) (pa_cons pe_int (pa_cons (pe_op op_add pe_int (pe_got R.D hr (pa_cons (pv 1) (pa_cons pe_int pa_nil)))) pa_nil))))))) (pss_one (ps_if (pt_not (pt_val (pe_callG GF hgd hr44 (by rfl) gF kF bF (pa_cons (pv 1) (pa_cons (pe_got R.Pd hr (pa_cons (pv 1) (pa_cons (pe_ix ix_list (pv 4) pe_int (fun _ _ => rfl)) pa_nil))) (pa_cons (pe_got R.Pd hr (pa_cons (pv 1) (pa_cons (pe_ix ix_list (pv 4) pe_int (fun _ _ => rfl)) pa_nil))) (pa_cons (pe_ix ix_list (pv 4) pe_int (fun _ _ => rfl)) pa_nil))))))) (pss_one (ps_ret pe_bl)) pss_nil))))
        (pss_cons (ps_if (PW.pt (pw_or (pt_cmpR (op_neD hu) (pe_got R.Pi hr (pa_cons (PE.imp (pJ_tup (pJa_cons pJ_str pJa_nil)) (tJ_to (b := false) (fun _ => exT .pl))) (pa_cons (PE.imp (pJ_tup (pJa_cons pJ_str (pJa_cons (pJ_lst pJa_nil) pJa_nil))) (tJ_to (b := false) (fun _ => exT (.rw [])))) pa_nil))) (PE.imp (pJ_tup (pJa_cons pJ_str (pJa_cons (pJ_lst pJa_nil) pJa_nil))) (tJ_to (b := false) (fun _ => exT (.rw [])))) (nomark _)) (pw_or1 (pt_cmpR op_isnot_bl (pe_got R.Ip hr (pa_cons (PE.imp (pJ_tup (pJa_cons pJ_str (pJa_cons (pJ_lst pJa_nil) pJa_nil))) (tJ_to (b := false) (fun _ => exT (.rw [])))) pa_nil)) pe_bl (by rfl))))) (pss_one (ps_ret pe_bl)) pss_nil)
        (pss_cons (ps_set (i := 6) scLaw.nd rfl (by first | exact Or.inl rfl | exact Or.inr rfl) (PE.imp (pJ_tup (pJa_cons pJ_str (pJa_cons (pJ_lst (pJa_cons (pJ_job (i := 0) (by decide) (pv 2)) (pJa_cons (pJ_job (i := 1) (by decide) (pv 2)) (pJa_cons (pJ_tup (pJa_cons pJ_str (pJa_cons (pJ_job (i := 2) (by decide) (pv 2)) pJa_nil))) (pJa_cons (pJ_job (i := 1) (by decide) (pv 2)) (pJa_cons (pJ_tup (pJa_cons pJ_str pJa_nil)) (pJa_cons (pJ_tup (pJa_cons pJ_str (pJa_cons (pJ_tup (pJa_cons pJ_str pJa_nil)) pJa_nil))) (pJa_cons (pJ_job (i := 0) (by decide) (pv 2)) pJa_nil)))))))) pJa_nil))) (tJ_to (b := false) (fun a => exT (.rw [.wd (a.w 0), .wd (a.w 1), .ag (.wd (a.w 2)), .wd (a.w 1), .pl, .ag .pl, .wd (a.w 0)])))))
        (pss_cons (ps_par (i := 7) (j := 8) rfl scLaw.nd rfl rfl (by decide) rfl rfl (pa_cons (pe_got R.Pi hr (pa_cons (pv 6) (pa_cons (PE.imp (pJ_tup (pJa_cons pJ_str (pJa_cons (pJ_lst (pJa_cons (pJ_job (i := 2) (by decide) (pv 2)) (pJa_cons (pJ_job (i := 0) (by decide) (pv 2)) pJa_nil))) pJa_nil))) (tJ_to (b := false) (fun a => exT (.rw [.wd (a.w 2), .wd (a.w 0)])))) pa_nil))) (pa_cons (PE.imp (pJ_tup (pJa_cons pJ_str (pJa_cons (pJ_lst (pJa_cons (pJ_job (i := 2) (by decide) (pv 2)) (pJa_cons (pJ_job (i := 0) (by decide) (pv 2)) pJa_nil))) pJa_nil))) (tJ_to (b := false) (fun a => exT (.rw [.wd (a.w 2), .wd (a.w 0)])))) pa_nil)) (by rfl))
        (pss_cons (ps_set (i := 9) scLaw.nd rfl (by first | exact Or.inl rfl | exact Or.inr rfl) (PE.imp (pJ_tup (pJa_cons pJ_str (pJa_cons (pJ_lst (pJa_cons (pJ_job (i := 0) (by decide) (pv 2)) (pJa_cons (pJ_job (i := 1) (by decide) (pv 2)) (pJa_cons (pJ_tup (pJa_cons pJ_str (pJa_cons (pJ_job (i := 2) (by decide) (pv 2)) pJa_nil))) (pJa_cons (pJ_job (i := 1) (by decide) (pv 2)) (pJa_cons (pJ_in (pv 8)) (pJa_cons (pJ_tup (pJa_cons pJ_str (pJa_cons (pJ_in (pv 8)) pJa_nil))) (pJa_cons (pJ_job (i := 0) (by decide) (pv 2)) pJa_nil)))))))) pJa_nil))) (tJ_to (b := true) (fun a => .tup [.v (.str "row"), .lst [.v (.str (a.w 0)), .v (.str (a.w 1)), .tup [.v (.str "again"), .v (.str (a.w 2))], .v (.str (a.w 1)), a.t, .tup [.v (.str "again"), a.t], .v (.str (a.w 0))]]))))
        (pss_one (ps_if (PW.pt (pw_or (pt_not (pt_val (pe_got R.Ex hr (pa_cons (pv 7) (pa_cons (pv 9) pa_nil))))) (pw_or (pt_cmpR op_isnot_bl (pe_got R.Ip hr (pa_cons (pv 6) pa_nil)) pe_bl (by rfl)) (pw_or1 (pt_cmpR op_isnot_bl (pe_got R.Ip hr (pa_cons (pv 9) pa_nil)) pe_bl (by rfl)))))) (pss_one (ps_ret pe_bl)) pss_nil)))))))))
      (pss_one (ps_ret pe_bl))), ?_⟩
    refine ⟨_, rfl, a, ns, 3, rfl, hS, hl63, ⟨by decide, by decide⟩, fun lp ps Hp0 hlen hlp hps s0 => ⟨lp, rfl, ⟨_, SqL.of hlp⟩, ?_⟩⟩
    have item : ∀ {i : Nat} {x : V}, (ps.map V.ref)[i]? = some x → ∃ e, ps[i]? = some e ∧ x = .ref e := fun {i x} h1 => by
      rw [List.getElem?_map] at h1
      cases q : ps[i]? with
      | none => rw [q] at h1; cases h1
      | some e => rw [q] at h1; exact ⟨e, rfl, (Option.some.inj h1).symm⟩
    refine for_list (K := K) (a := lp) (xs := ps.map V.ref) (fun i σ H' => (∃ v1 v2 v3 v4 v5 v6 v7 v8 v9, σ = [some (.ref a), v1, v2, v3, v4, v5, v6, v7, v8, v9]) ∧ H' lp = some (.lst (ps.map V.ref)) ∧ ∀ p ∈ ps, PurseAt H' p (200000 * i))
      ⟨⟨_, _, _, _, _, _, _, _, _, rfl⟩, hlp, fun p hp => (hps p hp).1⟩ (fun i σ H' _ ⟨_, g, _⟩ => SqL.of g) ?_ ?_
    · rintro i x σ H0 hx ⟨⟨v1, v2, v3, v4, v5, v6, v7, v8, v9, rfl⟩, glp, hp⟩
      obtain ⟨p, h1, rfl⟩ := item hx
      have hi : i < ps.length := (List.getElem?_eq_some_iff.mp h1).1
      have hm : p ∈ ps := List.mem_of_getElem? h1
      have hpp := hp p hm
      obtain ⟨c, ec⟩ : ∃ c, c = 200000 * i := ⟨_, rfl⟩
      rw [← ec] at hpp
      -- what is left when all is done
      have done : ∀ (H9 : Hp), Old p H0 H9 → PurseAt H9 p (c + 190000) → H9 lp = some (.lst (ps.map V.ref)) ∧ ∀ r ∈ ps, PurseAt H9 r (200000 * (i + 1)) := fun H9 o9 p9 => by
        refine ⟨o9 _ _ (Ne.symm (hps p hm).2) glp, fun r hq => ?_⟩
        by_cases e : r = p
        · rw [e]
          exact p9.up (by omega)
        · obtain ⟨c', z, t, b, h3, h4⟩ := (hp r hq).up (m := 200000 * (i + 1)) (by omega)
          exact ⟨c', z, t, b, o9 _ _ e h3, h4⟩
      refine ⟨_, rfl, p, 3, c, rfl, by decide, hpp, by omega, fun l ws H1 len ww nd gl nl p1 o1 fl => ?_⟩
      obtain ⟨j0, j1, j2, rfl⟩ : ∃ j0 j1 j2, ws = [j0, j1, j2] := by
        match ws, len with
        | [j0, j1, j2], _ => exact ⟨_, _, _, rfl⟩
      have w0 : Word j0 := ww _ (by simp)
      have w1 : Word j1 := ww _ (by simp)
      have w2 : Word j2 := ww _ (by simp)
      refine ⟨(6 : Int), rfl, by decide, by decide, ?_⟩
      refine for_range (fun j σ H' => (∃ v3 v4 v5, σ = [some (.ref a), some (.ref p), some (.ref l), v3, v4, v5, v6, v7, v8, v9]) ∧ Old p H1 H' ∧ PurseAt H' p (c + 110 + 20000 * j)) ⟨⟨_, _, _, rfl⟩, Old.refl _ _, p1.up (by omega)⟩ ?_ ?_
      · rintro j σ H2 hj ⟨⟨v3, v4, v5, rfl⟩, o2, p2⟩
        have j6 : j < 6 := hj
        obtain ⟨c2, ec2⟩ : ∃ c2, c2 = c + 110 + 20000 * j := ⟨_, rfl⟩
        rw [← ec2] at p2
        have hp2 := purse_some p2
        have gl2 := o2 _ _ nl gl
        refine ⟨(3 : Int), rfl, by decide, by decide, fun D hD => ?_⟩
        have nDp : D ≠ p := fun z => hp2 (z ▸ hD)
        refine lc_range (lo := 0) (n := 3) (fun k H' => ∃ es : List Ex, es.length = k ∧ (∀ e ∈ es, Few e ∧ hasPl e = false) ∧ Grp p H2 (upd H2 D (.lst [])) H' D (es.map exT) ∧ PurseAt H' p (c2 + 1100 * k)) ⟨[], rfl, fun _ h => (List.not_mem_nil h).elim, .nil hD, (p2.upd_ne (Ne.symm nDp)).up (by omega)⟩ ?_ ?_
        · rintro k H3 hk ⟨es, les, des, g3, p3⟩
          have k3 : k < 3 := hk
          refine ⟨rfl, ?_⟩
          dsimp only [tYes]
          rw [if_pos rfl]
          refine ⟨_, rfl, _, rfl, _, rfl, p, 4, _, rfl, ⟨by decide, by decide⟩, p3, by omega, fun r H4 r0 r1 p4 bt4 => ⟨_, _, rfl, rfl, ?_⟩⟩
          obtain ⟨rr, rfl⟩ := Int.eq_ofNat_of_zero_le r0
          have o34 : Old p H3 H4 := .of_but bt4
          have pw : 4 ^ (1 + rr + 1) ≤ 4 ^ 5 := Nat.pow_le_pow_right (by decide) (by omega)
          have pw5 : 4 ^ 5 = 1024 := by decide
          refine ⟨p, l, [j0, j1, j2], 2, 1 + rr, c2 + 1100 * k + 1, ?_, by omega, by omega, o34 _ _ nl (g3.keep _ _ nl gl2), nl, (by show 0 < 3; decide), (by show 3 ≤ 900; decide), ww, p4, by omega, fun y e H5 dr ly p5 o5 => ?_⟩
          · rw [show ((1 + rr : Nat) : Int) = 1 + (rr : Int) by omega]
            rfl
          · have o35 := o34.trans o5
            have ly' : Laid (nw H3 H5) y (exT e) := ly.same (nw_sub (old_up o34 p4))
            obtain ⟨acc, ga, la, gr⟩ := g3.step hp2 hD (by rw [List.length_map]; omega) o35 (old_up o35 p5) ly'
            have few : Few e ∧ hasPl e = false := by
              have m4 : max 1 (1 + rr) ≤ 4 := by omega
              have z4 : 4 ^ max 1 (1 + rr) ≤ 4 ^ 4 := Nat.pow_le_pow_right (by decide) m4
              exact ⟨⟨dr.w, Nat.le_trans dr.d m4, Nat.le_trans dr.t m4, Nat.le_trans dr.z z4⟩, dr.np⟩
            refine ⟨acc, ga, la, es ++ [e], by rw [List.length_append, les]; rfl, fun f hf => ?_, by rw [List.map_append]; exact gr, (p5.upd_ne (Ne.symm nDp)).up (by omega)⟩
            rcases List.mem_append.mp hf with hf | hf
            · exact des f hf
            · rw [List.mem_singleton.mp hf]
              exact few
        · rintro H3 ⟨es, les, des, g3, p3⟩
          obtain ⟨zs, gD, ll, lz⟩ := g3.fin hD
          rw [List.length_map] at lz
          obtain ⟨e0, e1, e2, rfl⟩ : ∃ e0 e1 e2, es = [e0, e1, e2] := by
            match es, les with
            | [e0, e1, e2], _ => exact ⟨_, _, _, rfl⟩
          obtain ⟨y0, y1, y2, rfl⟩ : ∃ y0 y1 y2, zs = [y0, y1, y2] := by
            match zs, lz with
            | [y0, y1, y2], _ => exact ⟨_, _, _, rfl⟩
          have one : ∀ (H' : Hp), hids H' [p] = hid H' p := fun H' => by
            funext b
            unfold hids hid
            by_cases e : b = p
            · rw [if_pos e, if_pos (by rw [e]; exact List.mem_singleton.mpr rfl)]
            · rw [if_neg e, if_neg (fun z => e (List.mem_singleton.mp z))]
          have toH : Same (nw H2 H3) (hid H3 p) := fun b o z => hid_of (fun w' => hp2 (w' ▸ (nw_some z).1)) (nw_some z).2
          obtain ⟨k0, k1, k2⟩ : Laid (hid H3 p) y0 (exT e0) ∧ Laid (hid H3 p) y1 (exT e1) ∧ Laid (hid H3 p) y2 (exT e2) := by
            have l3 : Lds (hid H3 p) [y0, y1, y2] [exT e0, exT e1, exT e2] := ll.same toH
            cases l3 with
            | cons a b => cases b with
              | cons b c => cases c with
                | cons c _ => exact ⟨a, b, c⟩
          obtain ⟨f0, n0⟩ := des e0 (by simp)
          obtain ⟨f1, n1⟩ := des e1 (by simp)
          obtain ⟨f2, n2⟩ := des e2 (by simp)
          have hidO : ∀ {A B : Hp}, Old p A B → Same (hid A p) (hid B p) := fun o b u z => hid_of (hid_some z).1 (o b u (hid_some z).1 (hid_some z).2)
          have fd0 := f0.d
          have fd1 := f1.d
          have fz0 := f0.z
          have fz1 := f1.z
          refine ⟨_, rfl, _, rfl, _, rfl, D, _, _, y0, rfl, rfl, SqL.of gD, atI_nat (j := 0) rfl, p, y0, e0, _, [p], rfl, List.mem_singleton.mpr rfl, fun b m => by rw [List.mem_singleton.mp m]; exact purse_some p3, by rw [one]; exact k0, f0.w, n0, by omega, by omega, p3, by omega, fun u0 g0 H5 sm0 pl0 lu0 p5 o5 => ?_⟩
          rw [one] at lu0
          have gD5 := o5 _ _ nDp gD
          refine ⟨_, rfl, _, rfl, D, _, _, y1, rfl, rfl, SqL.of gD5, atI_nat (j := 1) rfl, p, y1, e1, _, [p], rfl, List.mem_singleton.mpr rfl, fun b m => by rw [List.mem_singleton.mp m]; exact purse_some p5, by rw [one]; exact k1.same (hidO o5), f1.w, n1, by omega, by omega, p5, by omega, fun u1 g1 H6 sm1 pl1 lu1 p6 o6 => ?_⟩
          rw [one] at lu1
          have gD6 := o6 _ _ nDp gD5
          refine ⟨_, rfl, D, _, _, y2, rfl, rfl, SqL.of gD6, atI_nat (j := 2) rfl, p, u0, u1, y2, g0, g1, e2, _, rfl, lu0.same (hidO o6), lu1, k2.same (hidO (o5.trans o6)), ⟨sm0.w, Nat.le_trans sm0.d f0.d, Nat.le_trans sm0.t f0.t, Nat.le_trans sm0.z f0.z⟩, ⟨sm1.w, Nat.le_trans sm1.d f1.d, Nat.le_trans sm1.t f1.t, Nat.le_trans sm1.z f1.z⟩, f2, pl0, pl1, n2, p6, by omega, fun H7 o7 p7 => ⟨true, rfl, iteF ?_⟩⟩
          exact ⟨⟨_, _, _, rfl⟩, o2.trans (g3.keep.trans (o5.trans (o6.trans o7))), p7.up (by omega)⟩
      · rintro σ H2 ⟨⟨v3, v4, v5, rfl⟩, o2, p2⟩
        have gl2 := o2 _ _ nl gl
        obtain ⟨J, eJ⟩ : ∃ J : Jb, J = ⟨fun i => [j0, j1, j2].getD i "", .v .non⟩ := ⟨_, rfl⟩
        have sj : ∀ {u3 u4 u5 u6 u7 u8 u9 : Option V} {H' : Hp}, Same H2 H' → Sj false J [some (.ref a), some (.ref p), some (.ref l), u3, u4, u5, u6, u7, u8, u9] H' := fun s => by
          refine ⟨⟨l, _, rfl, s _ _ gl2, fun i hi => ?_⟩, fun h => by cases h⟩
          rw [eJ]
          match i, hi with
          | 0, _ => rfl
          | 1, _ => rfl
          | 2, _ => rfl
        have wR : wf (.rw []) := by unfold wf; exact ⟨by decide, by unfold wfs; trivial⟩
        have hR : hasPl (.rw []) = false := by rw [hasPl, anyPl]
        have dR : dep (.rw []) = 1 := by rw [dep, deps]
        have hP : hasPl .pl = true := by rw [hasPl]
        have dP : dep .pl = 1 := by rw [dep]
        have n0 : N0 = 16 := rfl
        refine ⟨J, sj Same.rfl', fun x1 H3 s3 k3 => ⟨J, sj s3, fun x2 H4 s4 k4 => ?_⟩⟩
        have c4 := s3.trans s4
        refine ⟨x1, x2, .pl, .rw [], rfl, k3.same s4, k4, by unfold wf; trivial, wR, hP, hR, by rw [dP, dR]; omega, fun x3 H5 s5 k5 => ?_⟩
        have c5 := c4.trans s5
        refine ⟨J, sj c5, fun x4 H6 s6 k6 => ?_⟩
        have c6 := c5.trans s6
        have k5' : ExAt H6 x3 (.rw []) := by
          have := k5.laid.same s6
          rw [put] at this
          exact this
        refine ⟨dEx (.rw []), dEx (.rw []), ex_dp k5', ex_dp k6, shaped_ex wR (by rw [dR]; decide), shaped_ex wR (by rw [dR]; decide), _, rfl, ?_⟩
        rw [show PyData.eqv (dEx (.rw [])) (dEx (.rw [])) = true by simp [dEx, dExs, PyData.eqv, PyData.eqvAll]]
        refine iteF ⟨J, sj c6, fun x5 H7 s7 k7 => ⟨x5, rfl, .inr ⟨.rw [], k7, wR, by rw [dR]; omega, fun H8 s8 => ⟨_, _, rfl, rfl, _, rfl, ?_⟩⟩⟩⟩
        rw [hR]
        refine iteF ?_
        have c8 := c6.trans (s7.trans s8)
        obtain ⟨W, eW⟩ : ∃ W : Ex, W = .rw [.wd j0, .wd j1, .ag (.wd j2), .wd j1, .pl, .ag .pl, .wd j0] := ⟨_, rfl⟩
        obtain ⟨I, eI⟩ : ∃ I : Ex, I = .rw [.wd j2, .wd j0] := ⟨_, rfl⟩
        have wW : wf W := by
          rw [eW]
          simp [wf, wfs, w0, w1, w2]
        have wI : wf I := by
          rw [eI]
          simp [wf, wfs, w0, w2]
        have dW : dep W = 3 := by
          rw [eW]
          simp [dep, deps]
        have dI : dep I = 2 := by
          rw [eI]
          simp [dep, deps]
        have hW : hasPl W = true := by
          rw [eW]
          simp [hasPl, anyPl]
        have hI : hasPl I = false := by
          rw [eI]
          simp [hasPl, anyPl]
        refine ⟨J, sj c8, fun x6 H9 s9 k9 => ?_⟩
        have kW : ExAt H9 x6 W := by
          rw [eW]
          rw [eJ] at k9
          exact k9
        have c9 := c8.trans s9
        refine ⟨_, rfl, J, sj c9, fun x7 H10 s10 k10 => ?_⟩
        have c10 := c9.trans s10
        have kI : ExAt H10 x7 I := by
          rw [eI]
          rw [eJ] at k10
          exact k10
        refine ⟨x6, x7, W, I, rfl, kW.same s10, kI, wW, wI, hW, hI, by omega, fun x8 H11 s11 k11 => ?_⟩
        have c11 := c10.trans s11
        refine ⟨J, sj c11, fun x9 H12 s12 k12 => ⟨_, _, rfl, ?_⟩⟩
        have c12 := c11.trans s12
        have kI2 : ExAt H12 x9 I := by
          rw [eI]
          rw [eJ] at k12
          exact k12
        obtain ⟨J2, eJ2⟩ : ∃ J2 : Jb, J2 = ⟨fun i => [j0, j1, j2].getD i "", exT I⟩ := ⟨_, rfl⟩
        have sj2 : Sj true J2 [some (.ref a), some (.ref p), some (.ref l), v3, v4, v5, some x6, some x8, some x9, v9] H12 := by
          refine ⟨⟨l, _, rfl, c12 _ _ gl2, fun i hi => ?_⟩, fun _ => ⟨x9, rfl, by rw [eJ2]; exact kI2⟩⟩
          rw [eJ2]
          match i, hi with
          | 0, _ => rfl
          | 1, _ => rfl
          | 2, _ => rfl
        refine ⟨J2, sj2, fun x10 H13 s13 k13 => ?_⟩
        have kD : ExAt H13 x10 (put I W) := by
          have e : exT (put I W) = .tup [.v (.str "row"), .lst [.v (.str j0), .v (.str j1), .tup [.v (.str "again"), .v (.str j2)], .v (.str j1), exT I, .tup [.v (.str "again"), exT I], .v (.str j0)]] := by
            rw [eW]
            simp [put, puts, exT, exTs]
          show Laid H13 x10 (exT (put I W))
          rw [e]
          rw [eJ2] at k13
          exact k13
        have wD : wf (put I W) := wf_put wI wW
        have dD : dep (put I W) ≤ 5 := by
          have := dep_put (x := I) W
          omega
        have hD : hasPl (put I W) = false := by rw [hasPl_put, hI, Bool.and_false]
        have alk := alk_two (n := 32) ((pl_ex wD).mono (by omega)) (k11.laid.same (s12.trans s13)) kD
        refine ⟨_, rfl, _, rfl, x8, x10, rfl, alk, fun H14 s14 => ⟨true, rfl, iteF ?_⟩⟩
        refine ⟨_, rfl, x6, rfl, .inr ⟨W, kW.same (s10.trans (s11.trans (s12.trans (s13.trans s14)))), wW, by omega, fun H15 s15 => ⟨_, _, rfl, rfl, _, rfl, ?_⟩⟩⟩
        rw [hW]
        refine iteF ⟨_, rfl, x10, rfl, .inr ⟨put I W, kD.same (s14.trans s15), wD, by omega, fun H16 s16 => ⟨_, _, rfl, rfl, _, rfl, ?_⟩⟩⟩
        rw [hD]
        refine iteF ?_
        have c16 := c12.trans (s13.trans (s14.trans (s15.trans s16)))
        obtain ⟨a1, a2⟩ := done H16 (o1.trans (o2.trans (.of_same c16))) ((p2.same c16).up (by omega))
        exact ⟨⟨_, _, _, _, _, _, _, _, _, rfl⟩, a1, a2⟩
    · rintro σ H1 ⟨⟨v1, v2, v3, v4, v5, v6, v7, v8, v9, rfl⟩, _, _⟩
      exact q _
end
end L2.K57
set_option Elab.async false
set_option linter.all false
set_option maxRecDepth 100000
set_option maxHeartbeats 4000000
namespace L2.K57
open PySem PySem.Spec PyProof.Rows L2.EV L2
def dn (x : Str) (i : Nat) : He.DefD := ⟨(x, none), x, x, defArgs (top i), defBody (top i), defScope (top i), [], []⟩
def fn : List He.DefD := [dn "is_tuple_of" 5, dn "has_word_form" 6, dn "has_expression_form" 7, dn "check_expression" 9, dn "leaves_of" 11, dn "nesting_of" 12, dn "has_place" 13, dn "expression_with" 14, dn "_is_open" 16, dn "is_open" 17, dn "put_in" 18, dn "is_expression" 20, dn "jobs_in" 21, dn "nesting" 22, dn "_law_purse" 24, dn "_law_mixed" 25, dn "_law_draw" 26, dn "_law_purses" 27, dn "_law_one_of" 28, dn "_law_same" 29, dn "_law_exact" 30, dn "_law_word" 31, dn "_law_words" 32, dn "_law_expression" 33, dn "_law_placed" 34, dn "_law_put" 35, dn "_law_leaves" 36, dn "_law_nest" 37, dn "_law_bent" 38, dn "_law_spoilt" 39, dn "_law_frame_right" 40, dn "law" 41]
def fa : List He.Fa := [.glo "is_tuple_of", .glo "has_word_form", .glo "has_expression_form", .glo "check_expression", .glo "leaves_of", .glo "nesting_of", .glo "has_place", .glo "expression_with", .glo "_is_open", .glo "is_open", .glo "put_in", .glo "is_expression", .glo "jobs_in", .glo "nesting", .glo "_law_purse", .glo "_law_mixed", .glo "_law_draw", .glo "_law_purses", .glo "_law_one_of", .glo "_law_same", .glo "_law_exact", .glo "_law_word", .glo "_law_words", .glo "_law_expression", .glo "_law_placed", .glo "_law_put", .glo "_law_leaves", .glo "_law_nest", .glo "_law_bent", .glo "_law_spoilt", .glo "_law_frame_right", .glo "law", .free "isinstance", .free "int", .free "str", .free "tuple", .free "len", .free "all", .free "any", .free "list", .free "dict", .free "zip", .free "range", .free "max", .free "min", .free "sum", .free "set", .free "sorted", .free "bool", .free "repr", .int "LONGEST_WORD" 8]
def more (K : PySem.W.Frag) : Bool := (K.lookup sysModules).isSome
abbrev Al : Type := He.AlD × Bool
def obs (g : Addr → Option Obj) : Al := let K := He.frG g (sysModules :: He.asD g 5); (He.obsD fa fn K, more K)
def hk : PySem.W.Hook where
  α := Al
  obs := fun s => obs s.heap.get?
  val := fun _ => (He.valD fn, true)
  says := fun _ h => ∃ K : PySem.W.Frag, K.In h ∧ He.SaysD fa fn K ∧ more K = true
  of := fun _ _ e => ⟨_, He.frG_in, congrArg (fun z : Al => z.1) e, congrArg (fun z : Al => z.2) e⟩
  keeps := fun _ _ _ ⟨K, hK, c⟩ k => ⟨K, PySem.W.Frag.In.keeps hK k, c⟩
abbrev R : PySem.W.OpenRow := PySem.W.OpenLaw.row PySem.Challenge.rw_withinbooks_k57_whole_expressions_put_in
def ob (s : PySem.W.SharedT) : Al := obs (HandSHeadRun.getT s)
theorem ob_eq (s : PySem.W.SharedT) : ob s = hk.obs s.abs := by
  have e : HandSHeadRun.getT s = s.abs.heap.get? := funext (HandSHeadRun.getT_eq s)
  show obs _ = obs _
  rw [e]
def loose : List Str := (["PurseError", "InvalidExpression", "LONGEST_WORD", "is_tuple_of", "has_word_form", "has_expression_form", "check_expression", "leaves_of", "nesting_of", "has_place", "expression_with", "_is_open", "is_open", "put_in", "is_expression", "jobs_in", "nesting", "_law_purse", "_law_mixed", "_law_draw"] : List Str) ++ (["_law_purses", "_law_one_of", "_law_same", "_law_exact", "_law_word", "_law_words", "_law_expression", "_law_placed", "_law_put", "_law_leaves", "_law_nest", "_law_bent", "_law_spoilt", "_law_frame_right"] : List Str)
end L2.K57
set_option Elab.async false
set_option linter.all false
set_option maxRecDepth 100000
set_option maxHeartbeats 0
namespace L2.K57
open PySem PySem.Spec PyProof.Rows L2.EV L2
theorem run (w : World) : HandSHeadRun.RunEq R (PySem.W.view R.prog [41]) hk ob 9000 loose w := by
  intro os
  kernel_rfl
end L2.K57
set_option Elab.async false
set_option linter.all false
set_option maxRecDepth 100000
set_option maxHeartbeats 4000000
namespace L2.K57
open PySem PySem.Spec PyProof.Rows L2.EV L2
theorem ok_none {P : Program} {w : World} {K : PySem.W.Frag} {mg : Str → Option Value} {base : Heap} {f : Addr} {fd : FuncData} {x : Str} {st : Stmt} {N ps : List Str} {k : Nat} {sp : Sp} (F : FnP K x st f fd) (S : FnScope N ps (defScope st)) (no : ∀ vs H Q E, sp vs H Q E → False) : FnOk P w K mg base CX0 (k + 1) f fd ps sp :=
  F.ok S (fun vs H Q E h => (no vs H Q E h).elim) (fun cdv A outer s H vs Q E hr h => (no _ _ _ _ h).elim)
theorem no_hf : ∀ vs H Q E, spHF 0 vs H Q E → False := fun vs H Q E ⟨_, _, _, _, _, _, h, _⟩ => by cases h
theorem no_hp : ∀ vs H Q E, spHP 0 vs H Q E → False := fun vs H Q E ⟨_, e, _, _, _, h, _⟩ => by have := dep_pos e; omega
theorem no_lv : ∀ vs H Q E, spLv 0 vs H Q E → False := fun vs H Q E ⟨_, e, _, _, _, h, _⟩ => by have := dep_pos e; omega
theorem no_ne : ∀ vs H Q E, spNe 0 vs H Q E → False := fun vs H Q E ⟨_, e, _, _, _, h, _⟩ => by have := dep_pos e; omega
theorem no_ew : ∀ vs H Q E, spEw 0 vs H Q E → False := fun vs H Q E ⟨_, _, f, _, _, _, _, _, _, _, h, _⟩ => by have := dep_pos f; omega
theorem no_sm : ∀ vs H Q E, spSm 0 vs H Q E → False := fun vs H Q E ⟨_, _, _, _, h, _⟩ => by cases h
theorem no_ex : ∀ vs H Q E, spEx 0 vs H Q E → False := fun vs H Q E ⟨_, _, _, h, _⟩ => by cases h
theorem no_pt : ∀ vs H Q E, spPt 0 vs H Q E → False := fun vs H Q E ⟨_, _, f, _, _, _, _, _, _, h, _⟩ => by have := dep_pos f; omega
theorem no_ll : ∀ vs H Q E, spLl 0 vs H Q E → False := fun vs H Q E ⟨_, e, _, _, _, h, _⟩ => by have := dep_pos e; omega
theorem no_ln : ∀ vs H Q E, spLn 0 vs H Q E → False := fun vs H Q E ⟨_, e, _, _, _, h, _⟩ => by have := dep_pos e; omega
theorem no_sp : ∀ vs H Q E, spSp 0 vs H Q E → False := fun vs H Q E ⟨_, _, _, _, _, h, _⟩ => by cases h
theorem no_xp : ∀ vs H Q E, spXp 0 vs H Q E → False := fun vs H Q E ⟨_, _, _, _, _, _, _, h, _⟩ => by omega
theorem no_pd : ∀ vs H Q E, spPd 0 vs H Q E → False := fun vs H Q E ⟨_, _, e, _, _, _, _, _, _, _, _, h, _⟩ => by have := dep_pos e; omega
theorem no_bn : ∀ vs H Q E, spBn 0 vs H Q E → False := fun vs H Q E ⟨_, _, e, _, _, _, _, h, _⟩ => by have := dep_pos e; omega
theorem facts {P : Program} {w : World} {K : PySem.W.Frag} {h : Heap} {mg : Str → Option Value} {f : Addr} (X : K.In h) (G : h.Ns mainGlobals mg) (hfa : mg ("law" : Str) = some (.ref f)) (c : He.SaysD fa fn K) (MM : more K = true) :
    ∃ fd : FuncData, (∀ (s : Shared) (v : Value), BindsTo s fd ⟨[v], []⟩ [("_law_script", v)]) ∧ ∀ base : Heap, K.In base → base.Ns mainGlobals mg → FnG P w K mg base 45 f fd ["_law_script"] (spLaw K) := by
  obtain ⟨d0, F0⟩ := c.def_ 0 (d := dn "is_tuple_of" 5) rfl
  obtain ⟨d1, F1⟩ := c.def_ 1 (d := dn "has_word_form" 6) rfl
  obtain ⟨d2, F2⟩ := c.def_ 2 (d := dn "has_expression_form" 7) rfl
  obtain ⟨d3, F3⟩ := c.def_ 3 (d := dn "check_expression" 9) rfl
  obtain ⟨d4, F4⟩ := c.def_ 4 (d := dn "leaves_of" 11) rfl
  obtain ⟨d5, F5⟩ := c.def_ 5 (d := dn "nesting_of" 12) rfl
  obtain ⟨d6, F6⟩ := c.def_ 6 (d := dn "has_place" 13) rfl
  obtain ⟨d7, F7⟩ := c.def_ 7 (d := dn "expression_with" 14) rfl
  obtain ⟨d8, F8⟩ := c.def_ 8 (d := dn "_is_open" 16) rfl
  obtain ⟨d9, F9⟩ := c.def_ 9 (d := dn "is_open" 17) rfl
  obtain ⟨d10, F10⟩ := c.def_ 10 (d := dn "put_in" 18) rfl
  obtain ⟨d11, F11⟩ := c.def_ 11 (d := dn "is_expression" 20) rfl
  obtain ⟨d12, F12⟩ := c.def_ 12 (d := dn "jobs_in" 21) rfl
  obtain ⟨d13, F13⟩ := c.def_ 13 (d := dn "nesting" 22) rfl
  obtain ⟨d14, F14⟩ := c.def_ 14 (d := dn "_law_purse" 24) rfl
  obtain ⟨d15, F15⟩ := c.def_ 15 (d := dn "_law_mixed" 25) rfl
  obtain ⟨d16, F16⟩ := c.def_ 16 (d := dn "_law_draw" 26) rfl
  obtain ⟨d17, F17⟩ := c.def_ 17 (d := dn "_law_purses" 27) rfl
  obtain ⟨d18, F18⟩ := c.def_ 18 (d := dn "_law_one_of" 28) rfl
  obtain ⟨d19, F19⟩ := c.def_ 19 (d := dn "_law_same" 29) rfl
  obtain ⟨d20, F20⟩ := c.def_ 20 (d := dn "_law_exact" 30) rfl
  obtain ⟨d21, F21⟩ := c.def_ 21 (d := dn "_law_word" 31) rfl
  obtain ⟨d22, F22⟩ := c.def_ 22 (d := dn "_law_words" 32) rfl
  obtain ⟨d23, F23⟩ := c.def_ 23 (d := dn "_law_expression" 33) rfl
  obtain ⟨d24, F24⟩ := c.def_ 24 (d := dn "_law_placed" 34) rfl
  obtain ⟨d25, F25⟩ := c.def_ 25 (d := dn "_law_put" 35) rfl
  obtain ⟨d26, F26⟩ := c.def_ 26 (d := dn "_law_leaves" 36) rfl
  obtain ⟨d27, F27⟩ := c.def_ 27 (d := dn "_law_nest" 37) rfl
  obtain ⟨d28, F28⟩ := c.def_ 28 (d := dn "_law_bent" 38) rfl
  obtain ⟨d29, F29⟩ := c.def_ 29 (d := dn "_law_spoilt" 39) rfl
  obtain ⟨d30, F30⟩ := c.def_ 30 (d := dn "_law_frame_right" 40) rfl
  obtain ⟨d31, F31⟩ := c.def_ 31 (d := dn "law" 41) rfl
  have g0 := He.glo_ok X G (c.fact 0 (f := .glo "is_tuple_of") rfl)
  have g1 := He.glo_ok X G (c.fact 1 (f := .glo "has_word_form") rfl)
  have g2 := He.glo_ok X G (c.fact 2 (f := .glo "has_expression_form") rfl)
  have g3 := He.glo_ok X G (c.fact 3 (f := .glo "check_expression") rfl)
  have g4 := He.glo_ok X G (c.fact 4 (f := .glo "leaves_of") rfl)
  have g5 := He.glo_ok X G (c.fact 5 (f := .glo "nesting_of") rfl)
  have g6 := He.glo_ok X G (c.fact 6 (f := .glo "has_place") rfl)
  have g7 := He.glo_ok X G (c.fact 7 (f := .glo "expression_with") rfl)
  have g8 := He.glo_ok X G (c.fact 8 (f := .glo "_is_open") rfl)
  have g9 := He.glo_ok X G (c.fact 9 (f := .glo "is_open") rfl)
  have g10 := He.glo_ok X G (c.fact 10 (f := .glo "put_in") rfl)
  have g11 := He.glo_ok X G (c.fact 11 (f := .glo "is_expression") rfl)
  have g12 := He.glo_ok X G (c.fact 12 (f := .glo "jobs_in") rfl)
  have g13 := He.glo_ok X G (c.fact 13 (f := .glo "nesting") rfl)
  have g14 := He.glo_ok X G (c.fact 14 (f := .glo "_law_purse") rfl)
  have g15 := He.glo_ok X G (c.fact 15 (f := .glo "_law_mixed") rfl)
  have g16 := He.glo_ok X G (c.fact 16 (f := .glo "_law_draw") rfl)
  have g17 := He.glo_ok X G (c.fact 17 (f := .glo "_law_purses") rfl)
  have g18 := He.glo_ok X G (c.fact 18 (f := .glo "_law_one_of") rfl)
  have g19 := He.glo_ok X G (c.fact 19 (f := .glo "_law_same") rfl)
  have g20 := He.glo_ok X G (c.fact 20 (f := .glo "_law_exact") rfl)
  have g21 := He.glo_ok X G (c.fact 21 (f := .glo "_law_word") rfl)
  have g22 := He.glo_ok X G (c.fact 22 (f := .glo "_law_words") rfl)
  have g23 := He.glo_ok X G (c.fact 23 (f := .glo "_law_expression") rfl)
  have g24 := He.glo_ok X G (c.fact 24 (f := .glo "_law_placed") rfl)
  have g25 := He.glo_ok X G (c.fact 25 (f := .glo "_law_put") rfl)
  have g26 := He.glo_ok X G (c.fact 26 (f := .glo "_law_leaves") rfl)
  have g27 := He.glo_ok X G (c.fact 27 (f := .glo "_law_nest") rfl)
  have g28 := He.glo_ok X G (c.fact 28 (f := .glo "_law_bent") rfl)
  have g29 := He.glo_ok X G (c.fact 29 (f := .glo "_law_spoilt") rfl)
  have g30 := He.glo_ok X G (c.fact 30 (f := .glo "_law_frame_right") rfl)
  have m_isinstance := He.free_ok X G (c.fact 32 (f := .free "isinstance") rfl)
  have m_int := He.free_ok X G (c.fact 33 (f := .free "int") rfl)
  have m_str := He.free_ok X G (c.fact 34 (f := .free "str") rfl)
  have m_tuple := He.free_ok X G (c.fact 35 (f := .free "tuple") rfl)
  have m_len := He.free_ok X G (c.fact 36 (f := .free "len") rfl)
  have m_all := He.free_ok X G (c.fact 37 (f := .free "all") rfl)
  have m_any := He.free_ok X G (c.fact 38 (f := .free "any") rfl)
  have m_list := He.free_ok X G (c.fact 39 (f := .free "list") rfl)
  have m_dict := He.free_ok X G (c.fact 40 (f := .free "dict") rfl)
  have m_zip := He.free_ok X G (c.fact 41 (f := .free "zip") rfl)
  have m_range := He.free_ok X G (c.fact 42 (f := .free "range") rfl)
  have m_max := He.free_ok X G (c.fact 43 (f := .free "max") rfl)
  have m_min := He.free_ok X G (c.fact 44 (f := .free "min") rfl)
  have m_sum := He.free_ok X G (c.fact 45 (f := .free "sum") rfl)
  have m_set := He.free_ok X G (c.fact 46 (f := .free "set") rfl)
  have m_sorted := He.free_ok X G (c.fact 47 (f := .free "sorted") rfl)
  have m_bool := He.free_ok X G (c.fact 48 (f := .free "bool") rfl)
  have m_repr := He.free_ok X G (c.fact 49 (f := .free "repr") rfl)
  obtain ⟨t0, n0⟩ := He.int_ok X G (c.fact 50 (f := .int "LONGEST_WORD" 8) rfl)
  have e := hfa.symm.trans (He.glo_ok X G (c.fact 31 (f := .glo "law") rfl))
  cases e
  have b := FunD.bindsA (ps := ["_law_script"]) F31 fun _ _ _ _ _ _ us hl => match us, hl with | [_], _ => rfl
  refine ⟨d31, fun s v => b s [v] rfl, fun base _ _ => ?_⟩
  have b0 := FunD.bindsN (ps := ["value", "length"]) F0 fun _ _ _ _ _ _ us hl => match us, hl with | [_, _], _ => rfl
  have Gtof : Got P w K mg base 1 "is_tuple_of" ["value", "length"] (spTof K) := ⟨⟨_, _, ok_tof F0 m_isinstance m_tuple m_len, b0, F0.kp, g0⟩⟩
  have b1 := FunD.bindsN (ps := ["value"]) F1 fun _ _ _ _ _ _ us hl => match us, hl with | [_], _ => rfl
  have Gwf : Got P w K mg base 1 "has_word_form" ["value"] (spWF K) := ⟨⟨_, _, ok_wf F1 n0 m_isinstance m_len m_str, b1, F1.kp, g1⟩⟩
  have b2 := FunD.bindsN (ps := pHF) F2 fun _ _ _ _ _ _ us hl => match us, hl with | [_, _], _ => rfl
  have Ghf : ∀ n, Got P w K mg base (n + 1) "has_expression_form" pHF (spHF n) := fun n => by
    induction n with
    | zero => exact ⟨⟨_, _, ok_none (k := 0) F2 scHF no_hf, b2, F2.kp, g2⟩⟩
    | succ n ih => exact ⟨⟨_, _, ok_hf_step F2 ih Gtof Gwf m_isinstance m_str m_list m_all, b2, F2.kp, g2⟩⟩
  have b4 := FunD.bindsN (ps := ["expression"]) F4 fun _ _ _ _ _ _ us hl => match us, hl with | [_], _ => rfl
  have Glv : ∀ n, Got P w K mg base (n + 1) "leaves_of" ["expression"] (spLv n) := fun n => by
    induction n with
    | zero => exact ⟨⟨_, _, ok_none (k := 0) F4 scLv no_lv, b4, F4.kp, g4⟩⟩
    | succ n ih => exact ⟨⟨_, _, ok_lv_step F4 ih m_isinstance m_str, b4, F4.kp, g4⟩⟩
  have b5 := FunD.bindsN (ps := ["expression"]) F5 fun _ _ _ _ _ _ us hl => match us, hl with | [_], _ => rfl
  have Gne : ∀ n, Got P w K mg base (n + 1) "nesting_of" ["expression"] (spNe n) := fun n => by
    induction n with
    | zero => exact ⟨⟨_, _, ok_none (k := 0) F5 scNe no_ne, b5, F5.kp, g5⟩⟩
    | succ n ih => exact ⟨⟨_, _, ok_ne_step F5 ih m_isinstance m_str m_max, b5, F5.kp, g5⟩⟩
  have b6 := FunD.bindsN (ps := ["expression"]) F6 fun _ _ _ _ _ _ us hl => match us, hl with | [_], _ => rfl
  have Ghp : ∀ n, Got P w K mg base (n + 1) "has_place" ["expression"] (spHP n) := fun n => by
    induction n with
    | zero => exact ⟨⟨_, _, ok_none (k := 0) F6 scHP no_hp, b6, F6.kp, g6⟩⟩
    | succ n ih => exact ⟨⟨_, _, ok_hp_step F6 ih m_isinstance m_str m_any, b6, F6.kp, g6⟩⟩
  have b7 := FunD.bindsN (ps := pEw) F7 fun _ _ _ _ _ _ us hl => match us, hl with | [_, _], _ => rfl
  have Gew : ∀ n, Got P w K mg base (n + 1) "expression_with" pEw (spEw n) := fun n => by
    induction n with
    | zero => exact ⟨⟨_, _, ok_none (k := 0) F7 scEw no_ew, b7, F7.kp, g7⟩⟩
    | succ n ih => exact ⟨⟨_, _, ok_ew_step F7 ih m_isinstance m_str, b7, F7.kp, g7⟩⟩
  have b8 := FunD.bindsN (ps := ["value"]) F8 fun _ _ _ _ _ _ us hl => match us, hl with | [_], _ => rfl
  have Gio : Got P w K mg base (N0 + 2) "_is_open" ["value"] spIo := ⟨⟨_, _, ok_io F8 (Ghf N0) (Ghp N0), b8, F8.kp, g8⟩⟩
  have b9 := FunD.bindsN (ps := ["value"]) F9 fun _ _ _ _ _ _ us hl => match us, hl with | [_], _ => rfl
  have Gip : Got P w K mg base (N0 + 3) "is_open" ["value"] spIo := ⟨⟨_, _, ok_ip F9 Gio, b9, F9.kp, g9⟩⟩
  have b11 := FunD.bindsN (ps := ["value"]) F11 fun _ _ _ _ _ _ us hl => match us, hl with | [_], _ => rfl
  have Gie : Got P w K mg base (N0 + 2) "is_expression" ["value"] spIe := ⟨⟨_, _, ok_ie F11 (Ghf N0), b11, F11.kp, g11⟩⟩
  have b3 := FunD.bindsN (ps := ["value", "placed"]) F3 fun _ _ _ _ _ _ us hl => match us, hl with | [_, _], _ => rfl
  have Gce : Got P w K mg base (N0 + 2) "check_expression" ["value", "placed"] spCe := ⟨⟨_, _, ok_ce F3 (Ghf N0), b3, F3.kp, g3⟩⟩
  have b10 := FunD.bindsN (ps := pEw) F10 fun _ _ _ _ _ _ us hl => match us, hl with | [_, _], _ => rfl
  have Gpi : Got P w K mg base (N0 + 3) "put_in" pEw spPi := ⟨⟨_, _, ok_pi F10 Gio Gce (Gew N0), b10, F10.kp, g10⟩⟩
  have b12 := FunD.bindsN (ps := ["expression"]) F12 fun _ _ _ _ _ _ us hl => match us, hl with | [_], _ => rfl
  have Gji : Got P w K mg base (N0 + 3) "jobs_in" ["expression"] spJi := ⟨⟨_, _, ok_ji F12 Gce (Glv N0) m_set m_sorted, b12, F12.kp, g12⟩⟩
  have b13 := FunD.bindsN (ps := ["expression"]) F13 fun _ _ _ _ _ _ us hl => match us, hl with | [_], _ => rfl
  have Gns : Got P w K mg base (N0 + 3) "nesting" ["expression"] (spNe N0) := ⟨⟨_, _, ok_ns F13 Gce (Gne N0), b13, F13.kp, g13⟩⟩
  have b16 := FunD.bindsN (ps := ["_law_purse_here", "_law_many"]) F16 fun _ _ _ _ _ _ us hl => match us, hl with | [_, _], _ => rfl
  have Gdr : Got P w K mg base 2 "_law_draw" ["_law_purse_here", "_law_many"] spDraw := ⟨⟨_, _, ok_draw F16 F15 g15 m_int m_range, b16, F16.kp, g16⟩⟩
  have b18 := FunD.bindsN (ps := ["_law_purse_here", "_law_some"]) F18 fun _ _ _ _ _ _ us hl => match us, hl with | [_, _], _ => rfl
  have Gone : Got P w K mg base 3 "_law_one_of" ["_law_purse_here", "_law_some"] spOne := ⟨⟨_, _, ok_one F18 (ok_draw F16 F15 g15 m_int m_range) b16 F16.kp g16 m_len, b18, F18.kp, g18⟩⟩
  have b17 := FunD.bindsN (ps := ["_law_script", "_law_few"]) F17 fun _ _ _ _ _ _ us hl => match us, hl with | [_, _], _ => rfl
  have Gpu : Got P w K mg base 2 "_law_purses" ["_law_script", "_law_few"] (spPurses K) := ⟨⟨_, _, ok_purses F17 F14 g14 m_sum m_int m_max m_min m_len m_range, b17, F17.kp, g17⟩⟩
  have b21 := FunD.bindsN (ps := ["_law_purse_here"]) F21 fun _ _ _ _ _ _ us hl => match us, hl with | [_], _ => rfl
  have Gwd : Got P w K mg base 3 "_law_word" ["_law_purse_here"] spWord := ⟨⟨_, _, ok_word F21 (ok_draw F16 F15 g15 m_int m_range) b16 F16.kp g16 m_range, b21, F21.kp, g21⟩⟩
  have b22 := FunD.bindsN (ps := ["_law_purse_here", "_law_many"]) F22 fun _ _ _ _ _ _ us hl => match us, hl with | [_, _], _ => rfl
  have Gwds : Got P w K mg base 4 "_law_words" ["_law_purse_here", "_law_many"] spWords := ⟨⟨_, _, ok_words F22 (ok_draw F16 F15 g15 m_int m_range) b16 F16.kp g16 (ok_word F21 (ok_draw F16 F15 g15 m_int m_range) b16 F16.kp g16 m_range) b21 F21.kp g21 m_range m_len m_list, b22, F22.kp, g22⟩⟩
  have b19 := FunD.bindsN (ps := ["_law_thing"]) F19 fun _ _ _ _ _ _ us hl => match us, hl with | [_], _ => rfl
  have Gsm : ∀ n, Got P w K mg base (n + 1) "_law_same" ["_law_thing"] (spSm n) := fun n => by
    induction n with
    | zero => exact ⟨⟨_, _, ok_none (k := 0) F19 scSm no_sm, b19, F19.kp, g19⟩⟩
    | succ n ih => exact ⟨⟨_, _, ok_sm_step F19 ih m_isinstance m_dict m_list m_tuple, b19, F19.kp, g19⟩⟩
  have b20 := FunD.bindsN (ps := pEx) F20 fun _ _ _ _ _ _ us hl => match us, hl with | [_, _], _ => rfl
  have Gex : ∀ n, Got P w K mg base (n + 1) "_law_exact" pEx (spEx n) := fun n => by
    induction n with
    | zero => exact ⟨⟨_, _, ok_none (k := 0) F20 scEx no_ex, b20, F20.kp, g20⟩⟩
    | succ n ih => exact ⟨⟨_, _, ok_ex_step F20 ih m_isinstance m_len m_all m_zip m_list m_tuple m_dict m_bool, b20, F20.kp, g20⟩⟩
  have b25 := FunD.bindsN (ps := pPt) F25 fun _ _ _ _ _ _ us hl => match us, hl with | [_, _], _ => rfl
  have Gpt : ∀ n, Got P w K mg base (n + 26) "_law_put" pPt (spPt n) := fun n => by
    induction n with
    | zero => exact ⟨⟨_, _, ok_none (k := 25) F25 scPt no_pt, b25, F25.kp, g25⟩⟩
    | succ n ih => exact ⟨⟨_, _, ok_pt_step F25 ih (Gsm 24) m_isinstance m_str, b25, F25.kp, g25⟩⟩
  have b26 := FunD.bindsN (ps := ["_law_expression_here"]) F26 fun _ _ _ _ _ _ us hl => match us, hl with | [_], _ => rfl
  have Gll : ∀ n, Got P w K mg base (n + 1) "_law_leaves" ["_law_expression_here"] (spLl n) := fun n => by
    induction n with
    | zero => exact ⟨⟨_, _, ok_none (k := 0) F26 scLl no_ll, b26, F26.kp, g26⟩⟩
    | succ n ih => exact ⟨⟨_, _, ok_ll_step F26 ih m_isinstance m_str, b26, F26.kp, g26⟩⟩
  have b27 := FunD.bindsN (ps := ["_law_expression_here"]) F27 fun _ _ _ _ _ _ us hl => match us, hl with | [_], _ => rfl
  have Gln : ∀ n, Got P w K mg base (n + 1) "_law_nest" ["_law_expression_here"] (spLn n) := fun n => by
    induction n with
    | zero => exact ⟨⟨_, _, ok_none (k := 0) F27 scLn no_ln, b27, F27.kp, g27⟩⟩
    | succ n ih => exact ⟨⟨_, _, ok_ln_step F27 ih m_isinstance m_str m_max, b27, F27.kp, g27⟩⟩
  have b29 := FunD.bindsN (ps := ["_law_thing"]) F29 fun _ _ _ _ _ _ us hl => match us, hl with | [_], _ => rfl
  have Gsp : ∀ n, Got P w K mg base (n + 1) "_law_spoilt" ["_law_thing"] (spSp n) := fun n => by
    induction n with
    | zero => exact ⟨⟨_, _, ok_none (k := 0) F29 scSp no_sp, b29, F29.kp, g29⟩⟩
    | succ n ih => exact ⟨⟨_, _, ok_sp_step F29 ih m_isinstance m_list m_tuple, b29, F29.kp, g29⟩⟩
  have b23 := FunD.bindsN (ps := pXp) F23 fun _ _ _ _ _ _ us hl => match us, hl with | [_, _, _, _], _ => rfl
  have Gxp : ∀ n, Got P w K mg base (n + 4) "_law_expression" pXp (spXp n) := fun n => by
    induction n with
    | zero => exact ⟨⟨_, _, ok_none (k := 3) F23 scXp no_xp, b23, F23.kp, g23⟩⟩
    | succ n ih => exact ⟨⟨_, _, ok_xp_step F23 ih Gdr Gone m_min m_max m_range, b23, F23.kp, g23⟩⟩
  have b24 := FunD.bindsN (ps := pPd) F24 fun _ _ _ _ _ _ us hl => match us, hl with | [_, _], _ => rfl
  have Gpd : ∀ n, Got P w K mg base (n + 3) "_law_placed" pPd (spPd n) := fun n => by
    induction n with
    | zero => exact ⟨⟨_, _, ok_none (k := 2) F24 scPd no_pd, b24, F24.kp, g24⟩⟩
    | succ n ih => exact ⟨⟨_, _, ok_pd_step F24 ih Gdr m_isinstance m_str m_len m_list, b24, F24.kp, g24⟩⟩
  have b28 := FunD.bindsN (ps := pBn) F28 fun _ _ _ _ _ _ us hl => match us, hl with | [_, _], _ => rfl
  have Gbn : ∀ n, Got P w K mg base (n + 4) "_law_bent" pBn (spBn n) := fun n => by
    induction n with
    | zero => exact ⟨⟨_, _, ok_none (k := 3) F28 scBn no_bn, b28, F28.kp, g28⟩⟩
    | succ n ih => exact ⟨⟨_, _, ok_bn_step F28 ih Gdr Gone m_isinstance m_str m_len m_tuple, b28, F28.kp, g28⟩⟩
  have RQ : Rq P w K mg base := ⟨Gpt 16, Gll 16, Gln 16, Gpi, Gie, Gip, Gji, Gns, Gex 32, Gbn 16, Gsp 32, m_len, m_range, m_repr, m_set, m_sorted, MM⟩
  have b30 := FunD.bindsN (ps := pFr) F30 fun _ _ _ _ _ _ us hl => match us, hl with | [_, _, _, _], _ => rfl
  have RL : Rl P w K mg base := ⟨Gpu, Gwds, Gdr, Gxp 5, Gpd 8, Gpi, Gip, Gex 32, m_range⟩
  exact ok_law F31 RL (ok_fr F30 RQ) g30 F30.kp b30
end L2.K57
set_option Elab.async false
set_option linter.all false
set_option maxRecDepth 100000
set_option maxHeartbeats 0
open PySem PySem.W PySem.Calls PyProof.Rows
theorem PySem.Challenge.cw_withinbooks_k57_whole_expressions_put_in_holds : PySem.Challenge.rw_withinbooks_k57_whole_expressions_put_in.Holds := by
  w_on; o_law
  refine HandSHeadRun.head_any (r := L2.K57.R) (q := view L2.K57.R.prog [41]) (H := L2.K57.hk) (ob := L2.K57.ob) (M := 9000) (loose := L2.K57.loose) (d := HandSHeadRun.topDef L2.K57.R.prog 41) (kwd := []) L2.K57.ob_eq
    (by kernel_rfl) (fun s => by kernel_rfl) L2.K57.run (by kernel_rfl) (by kernel_rfl) (by kernel_rfl) (by rfl) (by first | assumption | decide +kernel) (by decide +kernel) ⟨rfl, rfl, rfl, rfl, rfl, by decide +kernel⟩ ?hw ?hc
  case hw => w_witness2
  case hc =>
    refine L2.EV.walk_ofG (l := PySem.Challenge.rw_withinbooks_k57_whole_expressions_put_in) (n := 63) (k := 45) (x := "_law_script") rfl (by decide) (by kernel_rfl) ⟨rfl, by decide, by decide⟩ ?F
    intro w mg fa h Y G hmg0
    obtain ⟨K, KX, c, m⟩ := Y
    have hmg : mg ("law" : PySem.Str) = some (.ref fa) := by
      have e : (HandSHeadRun.topDef L2.K57.R.prog 41).name = ("law" : PySem.Str) := by kernel_rfl
      rw [← e]
      exact hmg0
    obtain ⟨fd, hb, hF⟩ := L2.K57.facts (P := (PySem.Challenge.rw_withinbooks_k57_whole_expressions_put_in).prog) (w := w) KX G hmg c m
    exact ⟨K, fd, L2.K57.spLaw K, KX, hb, fun H a ns hl _ hS => ⟨a, ns, rfl, hS, hl, fun _ => rfl⟩, hF⟩
