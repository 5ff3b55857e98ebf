import PyProof.Rows.All
import Wide.All
import OpenK.AllK
import Wide.FinOn
import KE.KExcIs
import HandS.ForMost
import HandS.ExcInit
import HandS.ExcValue
import HandS.IsInst
import HandS.Defaults
import HandS.ExcField
import PyProof.ReprRoads
import PyProof.StrLawsRepr
import PyProof.FitsInt
import HandS.Wide
import HandS.WideBits
import PyProof.ListStr
import HandS.Style
import HandS.More
import HandS.Deep
import HandS.Zip
import HandS.Conv
import HandS.StrMore
import HandS.WrittenGet
import HandS.TupSets
import HandS.Strs
import HandS.SetFor
import HandS.SetKeys
import KE.KeyNested
import KE.SortData
import HandS.MakeKw
import HandS.Head2
import HandS.HeadEnd
import HandS.HeadHook2
import HandS.TryMany
import HandS.Exc
import HandS.Words
import HandS.Set
import HandS.SetBool
import HandS.OwnEq
import HandS.Walk
import HandS.Iter
import HandS.TupAny
import HandS.Rev
import HandS.HeadHook3
import PySem.Challenge.RW_withinbooks_k03_manuals_kept_and_compare
set_option Elab.async false
set_option linter.all false
set_option maxRecDepth 100000
set_option maxHeartbeats 4000000
namespace EV
open PySem PySem.W PySem.Calls PySem.HandSPX
/-- the class object of an own class of errors over ValueError's chain -/
structure Above (h : Heap) (C : Addr) : Prop where
  ex : ∃ (nm qn : Str) (N : Addr) (bs bm : List Value) (hd : Bool) (sn : List Str) (sub : List Value) (ab : Bool) (col : Option Bool) (dd : Option Addr) (k0 k1 k2 k3 k5 : Option Value),
    h.get? C = some (excClassObj nm qn C N bs bm hd sn sub ab col dd k0 k1 k2 k3 k5 "ValueError.__new__") ∧ ∀ T : String, bm.contains (.type T) = veTail.contains (.type T)
section
variable {M : Model} {prog : Program} {w : World} {A : Around} {E : Value → Shared → Prop} {R : Result → Shared → Prop}
variable {h : Heap} {g : Array GenState} {d : Drawn} {t : Nat} {os : OsState} {C fI : Addr} {us : List Value} {kw : List (Str × Value)}
abbrev two (h : Heap) (C : Addr) (us : List Value) : Heap := (h.push (W.kdv_tup us)).push (excO C h.objs.size)
theorem new_ok {Q : Unit → Shared → Prop} (c : Above h C) (hq : Q () ⟨h, g, d, t, os⟩) :
    wpAny M A (checkBuiltinCall "ValueError.__new__" ⟨.ref C :: us, kw⟩) Q E ⟨h, g, d, t, os⟩ := by
  obtain ⟨nm, qn, N, bs, bm, hd, sn, sub, ab, col, dd, k0, k1, k2, k3, k5, hC, hT⟩ := c.ex
  have F := F.excBase_ValueError
  have in_ : (Value.ref C :: bm).contains (.type "ValueError") = true := by
    rw [List.contains_cons, hT, F.hasB, Bool.or_true]
  have ns := F.noStar
  simp only [checkBuiltinCall, F.newKind, F.newSplit, F.newRow]
  repeat (first
    | refine wpAny_loadPart_at hC ?_
    | (refine wpAny_isSubtype_exc hC ?_; rw [in_])
    | refine wpAny_staticBase_exc hC ?_
    | refine wpAny_madeBy_exc hC ?_
    | simp only [bne_self_eq_false, Bool.false_eq_true, if_false]
    | wp_step)
  exact hq
theorem new_does (c : Above h C) (hu : us.length ≤ sizeLine) (hq : R (.ok (.ret (.ref (h.objs.size + 1)))) ⟨two h C us, g, d, t, os⟩) :
    codeAny (model prog w) A (.builtin "ValueError.__new__" ⟨.ref C :: us, kw⟩) R ⟨h, g, d, t, os⟩ := by
  obtain ⟨nm, qn, N, bs, bm, hd, sn, sub, ab, col, dd, k0, k1, k2, k3, k5, hC, hT⟩ := c.ex
  have F := F.excBase_ValueError
  have he := F.ends
  have cB : (Value.ref C :: bm).contains (.type "ValueError") = true := by
    rw [List.contains_cons, hT, F.hasB, Bool.or_true]
  have cA : (Value.ref C :: bm).contains (.type "AttributeError") = false := by
    rw [List.contains_cons, hT, F.noAttr]; rfl
  have cN : (Value.ref C :: bm).contains (.type "NameError") = false := by
    rw [List.contains_cons, hT, F.noName]; rfl
  refine codeAny_builtinAt F.entry ?_
  unfold Builtin.«BaseException.__new__»
  refine wpAt_bind ?_
  show wpAt _ _ _ (stack >>= _) _ _ _
  refine wpAt_bind (wpAt_stack fun p below => wpAt_of_wpAny ?_)
  wp_walk
  refine wpAt_of_wpAny ?_
  rw [F.owner]
  repeat (first
    | with_reducible refine wpAny_madeHere_exc F.canon hC ?_
    | with_reducible refine wpAny_loadPart_at hC ?_
    | (with_reducible refine wpAny_isSubtype_exc hC ?_; first | rw [cB] | rw [cA] | rw [cN])
    | wp_step)
  show R _ _
  rw [Heap.size_push]
  exact hq
theorem type_does {Q : Fin → Shared → Prop} (c : Above h C) (hi : W.Looks (model prog w) h (typeLookup (.ref C) "__init__") (some (.ref fI)))
    (hb : ∀ self, W.Looks (model prog w) h (bindSpecial (.ref fI) self) (.ref fI, [self])) (hu : us.length ≤ sizeLine)
    (hq : codeAny (model prog w) A (.call (.ref fI) ⟨.ref (h.objs.size + 1) :: us, kw⟩)
      (fun r s' => match r with
        | .ok (.ret v) => v = .none ∧ Q (.done (.ret (.ref (h.objs.size + 1)))) s'
        | .ok _ => False
        | .error e => E e s') ⟨two h C us, g, d, t, os⟩) :
    wpAny (model prog w) A (Builtin.«type.__call__» ⟨.ref C :: us, kw⟩) Q E ⟨h, g, d, t, os⟩ := by
  obtain ⟨nm, qn, N, bs, bm, hd, sn, sub, ab, col, dd, k0, k1, k2, k3, k5, hC, hT⟩ := id c.ex
  have F := F.excBase_ValueError
  repeat (first
    | with_reducible refine wpAny_loadPart_at hC ?_
    | with_reducible refine wpAny_madeBy_exc hC ?_
    | wp_step)
  refine codeAny_call_builtin_code (Code.quiet_builtin _ F.quiet) (new_ok c ?_)
  refine new_does c hu ?_
  show wpAny _ _ _ _ _ _
  have k : ∀ b o, h.get? b = some o → (two h C us).get? b = some o := fun b o e => Heap.get?_push_of_some _ (Heap.get?_push_of_some _ e)
  have hC1 := k _ _ hC
  have hget : (two h C us).get? (h.objs.size + 1) = some (excO C h.objs.size) := by heap_get
  have cC : (Value.ref C :: bm).contains (.ref C) = true := by simp
  have i1 := hi.keeps k
  have b1 := (hb (.ref (h.objs.size + 1))).keeps k
  unfold isInstance
  repeat (first
    | with_reducible refine wpAny_loadPart_at hget ?_
    | (with_reducible refine wpAny_isSubtype_exc hC1 ?_; rw [cC])
    | wp_step)
  show wpAny _ _ (typeLookup (.ref C) _) _ _ _
  refine i1.at ?_
  refine wpAny_holding (wpAny_bind (b1.at ?_))
  refine wpAny_bind (wpAny_call (codeAny_mono hq fun r s' z => ?_))
  rcases r with e | (v | _ | _ | _) <;> first | exact z | exact z.elim | skip
  obtain ⟨rfl, z⟩ := z
  first
    | exact wpAny_pure (wpAny_pure z)
    | (wp_walk; exact z)
theorem call_does (c : Above h C) (hi : W.Looks (model prog w) h (typeLookup (.ref C) "__init__") (some (.ref fI)))
    (hb : ∀ self, W.Looks (model prog w) h (bindSpecial (.ref fI) self) (.ref fI, [self])) (hu : us.length ≤ sizeLine)
    (hq : codeAny (model prog w) (A.under (.builtin "type.__call__" ⟨.ref C :: us, kw⟩)) (.call (.ref fI) ⟨.ref (h.objs.size + 1) :: us, kw⟩)
      (W.InitBack (h.objs.size + 1) R) ⟨two h C us, g, d, t, os⟩) :
    codeAny (model prog w) A (.call (.ref C) ⟨us, kw⟩) R ⟨h, g, d, t, os⟩ := by
  obtain ⟨nm, qn, N, bs, bm, hd, sn, sub, ab, col, dd, k0, k1, k2, k3, k5, hC, hT⟩ := id c.ex
  have f1 := tc_lookup
  have f2 := tc_bind (.ref C)
  have hTy : (⟨h, g, d, t, os⟩ : Shared).TypeIs (.ref C) "type" := ⟨_, hC, rfl⟩
  refine codeAny_of_tree ?_
  show wpAny _ _ (callAny (.ref C) _) _ _ _
  repeat (any_goals (first | assumption | with_reducible refine wpAny_loadPart_at hC ?_ | wp_step))
  refine ⟨rfl, ?_⟩
  refine codeAny_call_builtin_at (Code.quiet_builtin _ (by decide +kernel)) entry_typeCall (wpAny_check_type_call_sub hC ?_)
  refine type_does c hi hb hu ?_
  refine codeAny_mono hq fun r s' z => ?_
  rcases r with e | (v | _ | _ | _) <;> exact z
end
end EV
set_option Elab.async false
set_option linter.all false
set_option maxRecDepth 100000
set_option maxHeartbeats 4000000
namespace L2.EV
open PySem PySem.Spec PyProof.Rows
/-- at a: an error of the class at C, made of v -/
def ErrO (H : Hp) (a C : Addr) (v : V) : Prop := ∃ dx, H a = some (exo a C (some dx)) ∧ H dx = some (exd dx [("value", v)])
theorem ErrO.same {H H' : Hp} {a C : Addr} {v : V} (e : ErrO H a C v) (s : Same H H') : ErrO H' a C v := by
  obtain ⟨dx, h1, h2⟩ := e
  exact ⟨dx, s _ _ h1, s _ _ h2⟩
/-- what __init__ promises -/
def spInit (C : Addr) : Sp := fun vs H Q _ => ∃ (a : Addr) (v : V), vs = [.ref a, v] ∧ H a = some (exo a C none) ∧
  ∀ dx, H dx = none → dx ≠ a → Q .non (upd (upd H dx (exd dx [("value", v)])) a (exo a C (some dx)))
/-- what the written part says of such a class -/
structure Err (K : PySem.W.Frag) (C fI : Addr) : Prop where
  ox : OexC K C
  noV : PySem.W.findIn K (.ref C) "value" = some none
  iC : PySem.W.findIn K (.ref C) "__init__" = some (some (.ref fI))
  tI : PySem.W.typeIn K (.ref fI) = some (.type "function")
  xf : XfC K C
theorem Err.up {K : PySem.W.Frag} {C fI : Addr} (e : Err K C fI) {h : Heap} (X : K.In h) : _root_.EV.Above h C := by
  obtain ⟨nm, q, N, bs, bm, sn, sub, ab, col, dd, k0, k1, k2, k3, k5, hC, hbm⟩ := e.ox.cls
  exact ⟨nm, q, N, bs, bm, true, sn, sub, ab, col, dd, k0, k1, k2, k3, k5, X _ _ hC, fun T => PySem.HandSPX.refsVE_contains T bm hbm⟩
section
variable {X : Cx} {pins : List (Addr × Obj)} {σ : St} {H H1 : Hp} {s s1 : Shared} {Q : VK} {C fI : Addr} {fd : FuncData} {k : Nat} {us ws : List Value} {kw : List (Str × Value)} {v : V}
theorem run_mkV (e : Err X.K C fI) (F1 : FnOk X.prog X.w X.K X.mg X.base CX0 k fI fd ["self", "value"] (spInit C)) (hr : Room (k + 1) X.A)
    (I1 : Inv X pins σ H1 s1) (hl : us.length ≤ sizeLine) (hb : ∀ (s : Shared) (self : Value), X.K.In s.heap → BindsTo s fd ⟨self :: us, kw⟩ ((["self", "value"] : List Str).zip (self :: ws)))
    (rw : Vals [v] ws) (q : ∀ a H', Same H1 H' → H1 a = none → ErrO H' a C v → Q (.ref a) H') :
    wpAny (model X.prog X.w) X.A (call (.ref C) us kw) (EP X pins σ Q) X.xe s1 := by
  obtain ⟨hp, g, dr, tk, os⟩ := s1
  have hsz : hp.objs.size ≤ hp.objs.size + 1 := Nat.le_succ _
  have hn : H1 (hp.objs.size + 1) = none := I1.hok.fresh hsz
  have kk : ∀ b o, hp.get? b = some o → (_root_.EV.two hp C us).get? b = some o := fun b o e => Heap.get?_push_of_some _ (Heap.get?_push_of_some _ e)
  have hget : (_root_.EV.two hp C us).get? (hp.objs.size + 1) = some (PySem.HandSPX.excO C hp.objs.size) := by heap_get
  have I2 : Inv X pins σ (upd H1 (hp.objs.size + 1) (exo (hp.objs.size + 1) C none)) ⟨_root_.EV.two hp C us, g, dr, tk, os⟩ :=
    I1.laid (t' := tk) (a := hp.objs.size + 1) (o := exo (hp.objs.size + 1) C none) (h' := _root_.EV.two hp C us) kk hsz (exo_ok hget)
  have r2 : Vals ([V.ref (hp.objs.size + 1), v]) (Value.ref (hp.objs.size + 1) :: ws) := .cons rfl rw
  refine wpAny_call (_root_.EV.call_does (e.up I1.kIn) (PySem.W.looks_findIn I1.kIn e.iC) (fun self => PySem.W.bind_fn I1.kIn self e.tI) hl
    (codeAny_mono (F1.run _ X.stack _ _ ⟨Value.ref (hp.objs.size + 1) :: us, kw⟩ (Value.ref (hp.objs.size + 1) :: ws) _ (fun u H2 => u = .non ∧ Q (.ref (hp.objs.size + 1)) H2) (fun _ _ _ => False)
      (hr.make C us kw) (I2.env0.make C us kw) (hb _ _ I2.kIn) r2 ⟨hp.objs.size + 1, v, rfl, upd_same, fun dx hd ne => ⟨rfl, q _ _ (fun b o e => ?_) hn ⟨dx, upd_same, ?_⟩⟩⟩) fun r s' hq' => ?_))
  · have hd1 : H1 dx = none := by
      rw [upd_ne ne] at hd
      exact hd
    rw [upd_ne (ne_of_none e hn), upd_ne (ne_of_none e hd1), upd_ne (ne_of_none e hn)]
    exact e
  · rw [upd_ne ne, upd_same]
  · cases r with
    | error er => exact hq'.elim
    | ok fl =>
      cases fl with
      | ret u =>
        obtain ⟨y, H', I3, rv, ev, q3⟩ := I2.after hq'
        subst ev
        exact ⟨rv, ⟨V.ref (hp.objs.size + 1), H', I3, rfl, q3⟩⟩
      | next => exact hq'.elim
      | brk => exact hq'.elim
      | cont => exact hq'.elim
end
/-- all that is asked of the class of the name x -/
structure Ck (P : Program) (w : World) (K : PySem.W.Frag) (mg : Str → Option Value) (base : Heap) (x : Str) (C : Addr) : Prop where
  mgx : mg x = some (.ref C)
  ex : ∃ (fI : Addr) (fd : FuncData), Err K C fI ∧ FnOk P w K mg base CX0 1 fI fd ["self", "value"] (spInit C) ∧
    (∀ (s : Shared) (self u : Value), K.In s.heap → BindsTo s fd ⟨[self, u], []⟩ ((["self", "value"] : List Str).zip [self, u])) ∧
    (∀ (s : Shared) (self : Value), K.In s.heap → BindsTo s fd ⟨[self], []⟩ ((["self", "value"] : List Str).zip [self, .none])) ∧
    (∀ (s : Shared) (self u : Value), K.In s.heap → BindsTo s fd ⟨[self], [("value", u)]⟩ ((["self", "value"] : List Str).zip [self, u]))
/-- C(..): a new error, made of v -/
def tMkV (C : Addr) (t : TE) : TE := fun σ H Q => t σ H fun v H1 => ∀ a H', Same H1 H' → H1 a = none → ErrO H' a C v → Q (.ref a) H'
section
variable {X : Cx} {C : Addr} {x : Str} {p pos kpos : Pos} {e : Expr} {te : TE}
theorem pe_mkV (c : Ck X.prog X.w X.K X.mg X.base x C) (hr : Room 2 X.A) (he : PE X e te) (hg : Gl X x := by rfl) (hdb : (x == ("__debug__" : Str)) = false := by decide)
    (hs : starEach [e] X.env = (false, eval e X.env) :: starEach [] X.env := by rfl) : PE X (.Call (.Name x p) [e] [] pos) (tMkV C te) := by
  obtain ⟨fI, fd, E, F, b1, b0, bk⟩ := c.ex
  refine ⟨fun pins s σ H Q I h => ?_⟩
  refine wpAny_Call_Name_kw (ld_glob I hg c.mgx ?_ hdb)
  refine PySem.W.callWith_K (h₀ := X.base) I.ok.mod.kin E.ox.kC ?_ hs (by rfl)
  rw [hs]
  show wpAny _ _ (spliced ((false, eval e X.env) :: backTo pos (starEach [] X.env))) _ _ s
  refine Calls.spliced_cons (thn (he.run pins s σ H _ I h) fun u s1 ⟨v, H1, I1, r1, q1⟩ => ?_)
  refine Calls.spliced_nil ⟨I1.kIn, ?_⟩
  exact run_mkV (us := [u]) (ws := [u]) E F hr I1 (by show 1 ≤ sizeLine; rw [sizeLine_eq]; omega) (fun s self X => b1 s self u X) (.cons r1 .nil) q1
theorem pe_mkV0 (c : Ck X.prog X.w X.K X.mg X.base x C) (hr : Room 2 X.A) (hg : Gl X x := by rfl) (hdb : (x == ("__debug__" : Str)) = false := by decide) :
    PE X (.Call (.Name x p) [] [] pos) (tMkV C (tC .non)) := by
  obtain ⟨fI, fd, E, F, b1, b0, bk⟩ := c.ex
  refine ⟨fun pins s σ H Q I h => ?_⟩
  refine wpAny_Call_Name_kw (ld_glob I hg c.mgx ?_ hdb)
  refine PySem.W.callWith_K0 I.kIn E.ox.kC ?_
  exact run_mkV (us := []) (ws := [.none]) (v := .non) E F hr I (Nat.zero_le _) (fun s self X => b0 s self X) (.cons rfl .nil) h
theorem pe_mkVK (c : Ck X.prog X.w X.K X.mg X.base x C) (hr : Room 2 X.A) (he : PE X e te) (hg : Gl X x := by rfl) (hdb : (x == ("__debug__" : Str)) = false := by decide)
    (hall : (backToKw pos (keywordEach [⟨some "value", e, kpos⟩] X.env)).all (·.1.isSome) = true := by rfl)
    (hks : (backToKw pos (keywordEach [⟨some "value", e, kpos⟩] X.env)).filterMap (·.1) = (["value"] : List Str) := by rfl)
    (hpl : ((backTo pos (starEach [] X.env)).any (·.1) || (backToKw pos (keywordEach [⟨some "value", e, kpos⟩] X.env)).any (·.1.isNone)) = false := by rfl) :
    PE X (.Call (.Name x p) [] [⟨some "value", e, kpos⟩] pos) (tMkV C te) := by
  obtain ⟨fI, fd, E, F, b1, b0, bk⟩ := c.ex
  refine ⟨fun pins s σ H Q I h => ?_⟩
  refine wpAny_Call_Name_kw (ld_glob I hg c.mgx ?_ hdb)
  refine PySem.W.callWith_KW0 (h₀ := X.base) I.ok.mod.kin E.ox.kC hall ?_ hpl
  refine thn ((pk_cons he pk_nil).run pos pins s σ H (fun vs H1 => match vs with
    | [v] => ∀ a H', Same H1 H' → H1 a = none → ErrO H' a C v → Q (.ref a) H'
    | _ => False) I h) fun us s2 ⟨zs, H2, I2, rz, q2⟩ => ⟨I2.kIn, ?_⟩
  cases rz with
  | nil => exact q2.elim
  | cons r1 r2 =>
    cases r2 with
    | nil =>
      rw [hks]
      exact run_mkV (us := []) (ws := [_]) E F hr I2 (Nat.zero_le _) (fun s self X => bk s self _ X) (.cons r1 .nil) q2
    | cons _ _ => exact q2.elim
end
end L2.EV
set_option Elab.async false
set_option linter.all false
set_option maxRecDepth 100000
set_option maxHeartbeats 4000000
namespace L2.EV
open PySem PySem.Spec PyProof.Rows
/-! ### the field of an error -/
def tValV (K : PySem.W.Frag) (te : TE) : TE := fun σ H Q => te σ H fun x H1 => ∃ (a C fI : Addr) (v : V), x = .ref a ∧ Err K C fI ∧ ErrO H1 a C v ∧ Q v H1
theorem pe_valV {X : Cx} {e : Expr} {te : TE} {pos : Pos} (he : PE X e te) (hb : attributeBase e "value" X.env (eval e X.env) = eval e X.env := by rfl) :
    PE X (.Attribute e "value" pos) (tValV X.K te) := by
  refine ⟨fun pins s σ H Q I h => ?_⟩
  refine attr_of hb (thn (he.run pins s σ H _ I h) fun u s1 hh => ?_)
  obtain ⟨x, H1, I1, rx, a, C, fI, v, ex, T, ⟨dx, ha, hd⟩, q⟩ := hh
  subst ex
  obtain rfl : u = Value.ref a := rx
  obtain ⟨t1, ho⟩ := exo_at I1.hok ha
  obtain ⟨mA, hns, hr⟩ := exd_at I1.hok hd
  obtain ⟨od, hod, hl⟩ := lookIn_ns hns
  have l : List.lookup ("value" : Str) [(("value" : Str), v)] = some v := by simp [List.lookup]
  obtain ⟨y, hy, ry⟩ := RelO.some_of (v := v) (o := mA "value") (by rw [← l]; exact hr "value")
  have J : PySem.W.InstAt s1.heap a { cls := .ref C, dict := some dx, data := .fields #[.ref t1, .none, .none, .none, .bool false, .none] } C (some od) := ⟨ho, rfl, rfl, hod⟩
  exact HandSPX.exc_get I1.kIn J T.xf.ga T.xf.gg T.xf.exC (PySem.W.findObj_own T.xf.hdC T.noV rfl (by rw [hl, hy])) (handed_of ry) ⟨v, H1, I1.tok _, ry, q⟩
/-! ### isinstance of an error -/
structure Asks (K : PySem.W.Frag) (C : Addr) : Prop where
  hcl : (PySem.W.clsIn K C).isSome = true
  hga : PySem.W.findIn K (.ref C) "__getattribute__" = some (some (.builtin "BaseException.__getattribute__"))
  hgt : PySem.W.findIn K (.ref C) "__getattr__" = some none
  hsub : PySem.W.subIn K (.ref C) (.type "BaseException") = some true
  ha : PySem.W.findIn K (.ref C) "__class__" = some (some (.builtin "object.__class__"))
  hn : PySem.W.specialIn K (.builtin "object.__class__") "__get__" = some (some (.builtin "getset_descriptor.__get__"))
  ht : PySem.W.takesIn K (.builtin "object.__class__") = some true
  hm : PySem.W.mroIn K C (.type "object") = some true
/-- at a: some error of the class at C -/
def IsErr (H : Hp) (a C : Addr) : Prop := (∃ v, ErrO H a C v) ∨ H a = some (ExO (.ref C) a)
def rIsV (K : PySem.W.Frag) : List V → Hp → VK → Prop := fun xs H Q => ∃ (a C : Addr) (c : V) (cv : Value) (b : Bool), xs = [.ref a, c] ∧ IsErr H a C ∧ ClsV c cv ∧ Asks K C ∧ PySem.W.kitOne K (.ref C) cv = some b ∧ Q (.bl b) H
theorem call_isV {X : Cx} : CallR X (.builtin "isinstance") (rIsV X.K) := by
  intro pins s σ H xs us Q I r h
  obtain ⟨a, C, c, cv, b, rfl, hE, hc, T, e, q⟩ := h
  obtain ⟨u1, u2, rfl, r1, r2⟩ := vals2 r
  have e2 := hc.eq r2
  subst e2
  cases (show u1 = Value.ref a from r1)
  rcases hE with ⟨v, dx, ha, hd⟩ | ha
  · obtain ⟨t1, ho⟩ := exo_at I.hok ha
    obtain ⟨mA, hns, hr⟩ := exd_at I.hok hd
    obtain ⟨od, hod, hl⟩ := lookIn_ns hns
    have J : PySem.W.InstAt s.heap a { cls := .ref C, dict := some dx, data := .fields #[.ref t1, .none, .none, .none, .bool false, .none] } C (some od) := ⟨ho, rfl, rfl, hod⟩
    exact PySem.W.kia_one (PySem.W.kitx_exc T.hcl T.hga T.hgt T.hsub T.ha T.hn T.ht T.hm) I.kIn J e (fun z => nomatch z) fun tk => ⟨.bl b, H, I.tok tk, rfl, q⟩
  · obtain ⟨⟨oe, vs, ho, hz, hv, _⟩, _, _⟩ := I.hok a _ ha
    have J : PySem.W.InstAt s.heap a oe C none := by
      obtain ⟨oc, od, oda, osl⟩ := oe
      obtain ⟨h1, h2⟩ := hz
      dsimp only at h1 h2 hv
      subst h1 h2 hv
      exact ⟨ho, rfl, rfl, trivial⟩
    exact PySem.W.kia_one (PySem.W.kitx_exc T.hcl T.hga T.hgt T.hsub T.ha T.hn T.ht T.hm) I.kIn J e (fun z => nomatch z) fun tk => ⟨.bl b, H, I.tok tk, rfl, q⟩
/-! ### C(): an own class of errors without __init__, as a value -/
theorem pe_mkN {X : Cx} {C : Addr} {bmB : List Value} {B newId initId : String} {x : Str} {p pos : Pos} (F : ExcBaseFacts B newId initId bmB) (q : PySem.W.excIn X.K C bmB newId = true) (gC : X.mg x = some (.ref C))
    (kC : PySem.W.keepIn X.K (.ref C) = true) (hg : Gl X x := by rfl) (hdb : (x == ("__debug__" : Str)) = false := by decide) :
    PE X (.Call (.Name x p) [] [] pos) (fun _ H Q => ∀ a, H a = none → Q (.ref a) (upd H a (ExO (.ref C) a))) := by
  refine ⟨fun pins s σ H Q I h => ?_⟩
  refine wpAny_Call_Name_kw (ld_glob I hg gC ?_ hdb)
  refine PySem.W.callWith_K0 I.kIn kC ?_
  show wpAny _ _ (call (.ref C) []) _ _ _
  obtain ⟨bm, N, nm, qn, bs, hdct, sn, sub, ab, col, dd, k0, k1, k2, k3, k5, mN, hC, hN, hni, T⟩ := exc_obj I.kIn q
  refine wpAny_call_exc_subT F T hC hN hni (fun h' a hm => ?_) (by show 0 ≤ sizeLine; omega)
  have hn : H a = none := I.hok.gone hm.new
  obtain ⟨t, ht, _, _⟩ := hm.there
  exact ⟨.ref a, upd H a (ExO (.ref C) a), I.laidN hm.keeps hm.new hn (exO_ok ht ⟨rfl, rfl⟩ rfl rfl rfl (show 4 < 6 by decide)), rfl, h a hn⟩
end L2.EV
set_option Elab.async false
set_option linter.all false
set_option maxRecDepth 100000
set_option maxHeartbeats 4000000
namespace L2.EV
open PySem PySem.Spec PyProof.Rows
/-! ### data that is tracked -/
def keyD : Key → PyData
  | .inl i => .int i
  | .inr x => .str x
mutual
inductive DpX (H : Hp) : V → PyData → Prop
  | non : DpX H .non .none
  | bl (b : Bool) : DpX H (.bl b) (.bool b)
  | int (i : Int) : DpX H (.int i) (.int i)
  | str (x : Str) : DpX H (.str x) (.str x)
  | lst {a : Addr} {xs : List V} {ds : List PyData} : H a = some (.lst xs) → DpXs H xs ds → DpX H (.ref a) (.list ds)
  | tup {a : Addr} {xs : List V} {ds : List PyData} : H a = some (.tup xs) → DpXs H xs ds → DpX H (.ref a) (.tuple ds)
  | dct {a : Addr} {kvs : List (Key × V)} {ds : List PyData} : H a = some (.dK kvs) → DpXs H (kvs.map (·.2)) ds → DpX H (.ref a) (.dict ((kvs.map fun p => keyD p.1).zip ds))
inductive DpXs (H : Hp) : List V → List PyData → Prop
  | nil : DpXs H [] []
  | cons {v : V} {vs : List V} {d : PyData} {ds : List PyData} : DpX H v d → DpXs H vs ds → DpXs H (v :: vs) (d :: ds)
end
theorem DpXs.length {H : Hp} {vs : List V} {ds : List PyData} (h : DpXs H vs ds) : ds.length = vs.length := by
  induction vs generalizing ds with
  | nil => cases h; rfl
  | cons v vs ih => cases h with | cons _ t => exact congrArg Nat.succ (ih t)
mutual
theorem DpX.same {H H' : Hp} (s : Same H H') : ∀ {v : V} {d : PyData}, DpX H v d → DpX H' v d
  | _, _, .non => .non
  | _, _, .bl b => .bl b
  | _, _, .int i => .int i
  | _, _, .str x => .str x
  | _, _, .lst h t => .lst (s _ _ h) (DpXs.same s t)
  | _, _, .tup h t => .tup (s _ _ h) (DpXs.same s t)
  | _, _, .dct h t => .dct (s _ _ h) (DpXs.same s t)
theorem DpXs.same {H H' : Hp} (s : Same H H') : ∀ {vs : List V} {ds : List PyData}, DpXs H vs ds → DpXs H' vs ds
  | _, _, .nil => .nil
  | _, _, .cons h t => .cons (DpX.same s h) (DpXs.same s t)
end
/-- the keys of a dict, read -/
theorem keys_read {P : Program} {w : World} {h : Heap} : ∀ {es : List DictEntry} {vs : List (Key × Value)}, Pairs (mixKind P w) es vs →
    ∃ as : List Addr, ReadsAll h (es.map (·.key)) (vs.map fun p => keyD p.1) as ∧ as = []
  | _, _, .nil => ⟨[], .nil, rfl⟩
  | _, _, .cons (kv := (k, v)) hk he t => by
    obtain ⟨as, r, e⟩ := keys_read (h := h) t
    rcases keyIs_shape (show keyIs k _ = true from hk) with ⟨i, tk, rfl, ek⟩ | ⟨x, tk, rfl, ek⟩
    · refine ⟨[] ++ as, ?_, by rw [e]; rfl⟩
      rw [List.map_cons, ek]
      exact .cons (.int i tk) r
    · refine ⟨[] ++ as, ?_, by rw [e]; rfl⟩
      rw [List.map_cons, ek]
      exact .cons (.str x tk) r
theorem vals_of_pairs {P : Program} {w : World} : ∀ {es : List DictEntry} {vs : List (Key × Value)}, Pairs (mixKind P w) es vs → es.map (·.val) = vs.map (·.2)
  | _, _, .nil => rfl
  | _, _, .cons _ he t => by
    rw [List.map_cons, List.map_cons, he, vals_of_pairs t]
theorem kv_keys : ∀ {kvs : List (Key × V)} {vs : List (Key × Value)}, KV kvs vs → (vs.map fun p => keyD p.1) = kvs.map fun p => keyD p.1
  | _, _, .nil => rfl
  | _, _, .cons h t => by
    rw [List.map_cons, List.map_cons, h.1, kv_keys t]
theorem kv_vals : ∀ {kvs : List (Key × V)} {vs : List (Key × Value)}, KV kvs vs → Vals (kvs.map (·.2)) (vs.map (·.2))
  | _, _, .nil => .nil
  | _, _, .cons h t => .cons h.2 (kv_vals t)
theorem zip_fst {α β : Type} : ∀ {xs : List α} {ys : List β}, ys.length = xs.length → (xs.zip ys).map (·.1) = xs
  | [], [], _ => rfl
  | x :: xs, y :: ys, h => by rw [List.zip_cons_cons, List.map_cons, zip_fst (Nat.succ.inj h)]
theorem zip_snd {α β : Type} : ∀ {xs : List α} {ys : List β}, ys.length = xs.length → (xs.zip ys).map (·.2) = ys
  | [], [], _ => rfl
  | x :: xs, y :: ys, h => by rw [List.zip_cons_cons, List.map_cons, zip_snd (Nat.succ.inj h)]
section
variable {X : Cx} {pins : List (Addr × Obj)} {σ : St} {H : Hp} {s : Shared}
mutual
theorem DpX.reads (I : Inv X pins σ H s) : ∀ {v : V} {d : PyData} (u : Value), DpX H v d → RelV v u → ∃ as, Reads s.heap u d as ∧ ∀ b ∈ as, H b ≠ none
  | _, _, _, .non, r => by cases r; exact ⟨_, .none, fun _ z => nomatch z⟩
  | _, _, _, .bl b, r => by cases r; exact ⟨_, .bool b, fun _ z => nomatch z⟩
  | _, _, _, .int i, r => by obtain ⟨t, rfl⟩ := r; exact ⟨_, .int i t, fun _ z => nomatch z⟩
  | _, _, _, .str x, r => by obtain ⟨t, rfl⟩ := r; exact ⟨_, .str x t, fun _ z => nomatch z⟩
  | _, _, _, .lst (a := a) (xs := xs) h t, r => by
    cases r
    obtain ⟨_, its, n, rv, e⟩ := (show ObjOk X.prog X.w H s.heap a (.lst xs) from I.hok a _ h)
    obtain ⟨as, q, k⟩ := DpXs.reads I its t rv
    refine ⟨a :: as, .list e rfl rfl q, fun b hb => ?_⟩
    rcases List.mem_cons.mp hb with e | hb
    · rw [e, h]; exact fun z => nomatch z
    · exact k b hb
  | _, _, _, .tup (a := a) (xs := xs) h t, r => by
    cases r
    obtain ⟨_, its, rv, o, e1, e2, n, e3⟩ := (show ObjOk X.prog X.w H s.heap a (.tup xs) from I.hok a _ h)
    obtain ⟨as, q, k⟩ := DpXs.reads I its t rv
    exact ⟨as, .tuple e1 e2 e3 q, k⟩
  | _, _, _, .dct (a := a) (kvs := kvs) (ds := ds) h t, r => by
    cases r
    obtain ⟨_, _, vs, rk, o, es, ep, e1, e2, e3, _, pr, _⟩ := (show ObjOk X.prog X.w H s.heap a (.dK kvs) from I.hok a _ h)
    obtain ⟨ks, q1, ek⟩ := keys_read (h := s.heap) pr
    obtain ⟨as, q2, k⟩ := DpXs.reads I _ t (kv_vals rk)
    have hl : ds.length = (kvs.map fun p => keyD p.1).length := by rw [t.length, List.length_map, List.length_map]
    refine ⟨a :: ks ++ as, .dict e1 e2.1 e3 (by rw [zip_fst hl, ← kv_keys rk]; exact q1) (by rw [zip_snd hl, vals_of_pairs pr]; exact q2), fun b hb => ?_⟩
    subst ek
    rcases List.mem_cons.mp (show b ∈ a :: as from hb) with e | hb
    · rw [e, h]; exact fun z => nomatch z
    · exact k b hb
theorem DpXs.reads (I : Inv X pins σ H s) : ∀ {vs : List V} {ds : List PyData} (us : List Value), DpXs H vs ds → Vals vs us → ∃ as, ReadsAll s.heap us ds as ∧ ∀ b ∈ as, H b ≠ none
  | _, _, _, .nil, r => by cases r; exact ⟨_, .nil, fun _ z => nomatch z⟩
  | _, _, _, .cons h t, r => by
    cases r with
    | cons r1 r2 =>
      obtain ⟨as, q1, k1⟩ := DpX.reads I _ h r1
      obtain ⟨bs, q2, k2⟩ := DpXs.reads I _ t r2
      exact ⟨as ++ bs, .cons q1 q2, fun b hb => (List.mem_append.mp hb).elim (k1 b) (k2 b)⟩
end
end
/-! ### repr -/
def rRepr : List V → Hp → VK → Prop := fun xs H Q => ∃ (x : V) (d : PyData), xs = [x] ∧ DpX H x d ∧ d.showable = true ∧ d.shown.length ≤ sizeLine ∧ d.depth ≤ 60 ∧ Q (.str d.shown) H
theorem call_repr {X : Cx} (hg : X.A.guards = some []) (hu : X.A.units + 64 < cLine) (hs : (X.K.lookup sysModules).isSome = true) : CallR X (.builtin "repr") rRepr := by
  intro pins s σ H xs us Q I r h
  obtain ⟨x, d, rfl, D, sh, hl, hd, q⟩ := h
  cases r with
  | cons r1 r2 =>
    cases r2
    have no : H sysModules = none := by
      obtain ⟨o, e⟩ := Option.isSome_iff_exists.mp hs
      exact (I.bs sysModules o (I.ok.mod.kin _ _ e)).2
    obtain ⟨as, rd, k⟩ := D.reads I _ r1
    have hsm : d.hasDict = true → sysModules ∉ as := fun _ z => k _ z no
    show wpAny _ _ (call (.builtin "repr") [_]) _ _ _
    cases D with
    | non => cases r1; exact PySem.P.repr_of_none ⟨.str _, H, I.tok _, ⟨_, rfl⟩, q⟩
    | bl b =>
      cases r1
      exact PySem.P.repr_of_bool ⟨.str _, H, I.tok _, ⟨_, rfl⟩, q⟩
    | int i =>
      obtain ⟨t, rfl⟩ := r1
      exact PySem.P.repr_of_int (by simpa [PyData.showable] using sh) ⟨.str _, H, I.tok _, ⟨_, rfl⟩, q⟩
    | str y =>
      obtain ⟨t, rfl⟩ := r1
      exact PySem.P.repr_of_str ⟨.str _, H, I.tok _, ⟨_, rfl⟩, q⟩ hl
    | lst h t =>
      cases r1
      exact repr_of_reads' rd sh hsm hg (by omega) (fun _ _ e => e) (fun h' u tk kp => ⟨.str _, H, I.kept kp, ⟨_, rfl⟩, q⟩) hl
    | tup h t =>
      cases r1
      exact repr_of_reads' rd sh hsm hg (by omega) (fun _ _ e => e) (fun h' u tk kp => ⟨.str _, H, I.kept kp, ⟨_, rfl⟩, q⟩) hl
    | dct h t =>
      cases r1
      exact repr_of_reads' rd sh hsm hg (by omega) (fun _ _ e => e) (fun h' u tk kp => ⟨.str _, H, I.kept kp, ⟨_, rfl⟩, q⟩) hl
end L2.EV
set_option Elab.async false
set_option linter.all false
set_option maxRecDepth 100000
set_option maxHeartbeats 4000000
namespace L2.EV
open PySem PySem.Spec PyProof.Rows
/-! ### how long a shown thing is at most -/
theorem len_app (a b : Str) : (a ++ b).length = a.length + b.length := PySem.Str.length_append a b
theorem list_le : ∀ ts : List Str, (listText ts).length ≤ piled ts + 2
  | [] => by decide +kernel
  | t :: r => by
    unfold listText
    show ((textFrom 1 (("[" : Str) ++ (if 0 > 0 then ", " else "" : String) ++ t) r) ++ ("]" : Str)).length ≤ _
    rw [len_app, textFrom_length_pos _ _ _ (by omega), len_app, len_app, piled_cons]
    have e1 : ("[" : Str).length = 1 := rfl
    have e2 : ((if 0 > 0 then ", " else "" : String) : Str).length = 0 := rfl
    have e3 : ("]" : Str).length = 1 := rfl
    omega
theorem join_le (ts : List Str) : (Str.join ", " ts).length ≤ piled ts := by
  by_cases h : ts = []
  · subst h; decide +kernel
  · have := join_length_add ts h
    omega
theorem tuple_le (ts : List Str) : (tupleText ts).length ≤ piled ts + 3 := by
  unfold tupleText
  rw [len_app, len_app]
  have e1 : ("(" : Str).length = 1 := rfl
  have e2 : ((if ts.length == 1 then ",)" else ")" : String) : Str).length ≤ 2 := by split <;> decide +kernel
  have := join_le ts
  omega
theorem dict_le (ts : List Str) : (dictText ts).length ≤ piled ts + 2 := by
  unfold dictText
  rw [len_app, len_app]
  have e1 : ("{" : Str).length = 1 := rfl
  have e2 : ("}" : Str).length = 1 := rfl
  have := join_le ts
  omega
/-- codes that repr knows -/
def Codes (x : Str) : Prop := ∀ c ∈ x.cps.toList, c < 16 ^ 8
theorem str_le {x : Str} (h : Codes x) : (PyData.str x).shown.length ≤ 10 * x.length + 2 := by
  show (reprText x).length ≤ _
  exact PySem.StrLaws.reprText_len x h

/-! ### a def's promise where no repr is under way -/
structure FnG (P : Program) (w : World) (K : PySem.W.Frag) (mg : Str → Option Value) (base : Heap) (k : Nat) (f : Addr) (fd : FuncData) (ps : List Str) (sp : Sp) : Prop where
  len : ∀ vs H Q E, sp vs H Q E → vs.length = ps.length
  run : ∀ (A : Around) (outer : List Env) (s : Shared) (H : Hp) (args : Args) (us : List Value) (vs : List V) (Q : VK) (E : XK),
    A.guards = some [] → Room k A → Env0 P w K mg base A outer s H → BindsTo s fd args (ps.zip us) → Vals vs us → sp vs H Q E →
    codeAny (model P w) A (.call (.ref f) args) (CR CX0 outer P w H s Q E) s
section
variable {P : Program} {w : World} {K : PySem.W.Frag} {mg : Str → Option Value} {base : Heap} {x qual : Str} {params : Arguments} {body : List Stmt} {scope : Scope} {f : Addr} {fd : FuncData}
theorem fnG_of {dvs : List V} {kws : List (Str × V)} {N ps : List Str} {k : Nat} {sp : Sp} (F : FunD K x qual params body scope dvs kws f fd) (S : FnScope N ps scope)
    (len : ∀ vs H Q E, sp vs H Q E → vs.length = ps.length)
    (hbody : ∀ (cdv : Value) (A : Around) (outer : List Env) (s : Shared) (H : Hp) (vs : List V) (Q : VK) (E : XK), A.guards = some [] →
      Room k (A.deeper (envOfC qual scope s.heap.objs.size f cdv)) → sp vs H Q E →
      ∃ t, PSs (cxOf CX0 P w K mg base N qual scope f cdv A outer s H E) body t ∧ t { nx := fun _ H' => Q .non H', rt := Q } (start N vs) H) :
    FnG P w K mg base (k + 1) f fd ps sp := by
  obtain ⟨oc, od, dV, kV, doc, pm, an, cdv, ct, osl, rfl, lk, hcd, _, _⟩ := F.ex
  refine ⟨len, fun A outer s H args us vs Q E hgd hr e0 hb r hsp => ?_⟩
  have hl := len _ _ _ _ hsp
  have kin : K.In s.heap := PySem.W.Frag.In.keeps e0.mod.kin fun b o e => (e0.bs b o e).1
  have nolim : s.heap.NoLimit := Heap.NoLimit.keeps e0.mod.nolimit fun b o e => (e0.bs b o e).1
  have kinds : ∀ y ∈ ps.zip us, scope.names.lookup y.1 = some .local ∨
      (scope.names.lookup y.1 = some .cell ∧ ((cellsFrom (s.heap.objs.size + 1) scope.names []).lookup y.1).isSome = true) := by
    rintro ⟨n, v⟩ hy
    exact (S.par n (List.of_mem_zip hy).1).imp id fun q => ⟨q, PySem.W.cellsFrom_some _ _ _ (.inl q)⟩
  refine codeAny_call_function hr.depth (kin _ _ lk) rfl S.co S.gen rfl (PySem.W.codeRec_of kin hcd) (hb _ _ _ _ ?_)
  refine wpAny_newFunctionEnv_cells S.kind kinds fun env he s1 z => ?_
  subst he
  refine ⟨nolim.keeps z.toInCall.keep, codeAny_func ?_⟩
  obtain ⟨t, ht, hq⟩ := hbody cdv A outer s H vs Q E hgd (hr.deeper _) hsp
  have I0 := inv_start (CX := CX0) (E := E) S hr.hd e0 hl r z
  refine wpAny_mono (ht.run [] s1 _ H _ I0 hq) (fun fl s' hs => ?_) fun e s' hs => hs
  cases fl with
  | ret u =>
    obtain ⟨v, σ', H', J, rv, q⟩ := hs
    exact ⟨v, H', J.os, J.bare, J.base, J.hok, rv, q⟩
  | next =>
    obtain ⟨σ', H', J, q⟩ := hs
    exact ⟨.non, H', J.os, J.bare, J.base, J.hok, rfl, q⟩
  | brk => obtain ⟨_, _, _, q⟩ := hs; exact q.elim
  | cont => obtain ⟨_, _, _, q⟩ := hs; exact q.elim
end
section
variable {X : Cx} {k : Nat} {f : Addr} {fd : FuncData} {ps : List Str} {sp : Sp} {x : Str} {p pos : Pos} {e : Expr} {es : List Expr} {t : TA}
/-- f(e, ..) -/
theorem pe_callG (F : FnG X.prog X.w X.K X.mg X.base k f fd ps sp) (hgd : X.A.guards = some []) (hr : Room k X.A) (hg : Gl X x) (hm : X.mg x = some (.ref f)) (hk : PySem.W.keepIn X.K (.ref f) = true) (hb : Binds X.K fd ps [])
    (ha : PA X (e :: es) t) (hdb : (x == ("__debug__" : Str)) = false := by decide) (he : starEach (e :: es) X.env = (false, eval e X.env) :: starEach es X.env := by rfl) (hpl : (backTo pos (starEach es X.env)).any (·.1) = false := by rfl) :
    PE X (.Call (.Name x p) (e :: es) [] pos) (tCall sp [] E0 t) := by
  refine ⟨fun pins s σ H Q I h => ?_⟩
  refine wpAny_Call_Name_kw (ld_glob I hg hm ?_ hdb)
  refine PySem.W.callWith_K (h₀ := X.base) I.ok.mod.kin hk (thn (ha.run pos pins s σ H _ I h) fun us s1 ⟨vs, H1, I1, r, q⟩ => ⟨I1.kIn, ?_⟩) he hpl
  have q : sp (vs ++ []) H1 Q E0 := q
  rw [List.append_nil] at q
  have hl : (us ++ []).length = ps.length := by rw [List.append_nil, ← r.length]; exact F.len _ _ _ _ q
  have bt := hb s1 us I1.kIn hl
  rw [List.append_nil] at bt
  refine wpAny_call (codeAny_mono (F.run X.A X.stack s1 H1 ⟨us, []⟩ us vs Q E0 hgd hr I1.env0 bt r q) fun r' s' z => ?_)
  cases r' with
  | error er => exact z.elim
  | ok fl =>
    cases fl with
    | ret u => exact I1.after z
    | next => exact z.elim
    | brk => exact z.elim
    | cont => exact z.elim
end

/-! ### the law's call: the script is tracked (or written), nothing else -/
section
variable {P : Program} {w : World} {K : PySem.W.Frag} {mg mb : Str → Option Value} {k : Nat} {fa a : Addr} {fd : FuncData} {x : Str} {sp : Sp} {s1 : Shared} {us : List Value} {ns : List Int}
abbrev Told (s1 : Shared) (r : Result) (s' : Shared) : Prop := r = .ok (.ret (.bool true)) ∧ OldK s1.heap s'.heap ∧ s'.os = s1.os ∧ AllBare s'.gens
abbrev scr (us : List Value) : Obj := { cls := .type "list", data := .seq us.toArray }
theorem law_at (H : Hp) (KX : K.In s1.heap) (hns : s1.heap.Ns mainGlobals mg) (hb : s1.heap.Ns builtinsNs mb) (hbb : ∀ x : Str, x ≠ "__name__" → mb x = bootBuiltins x)
    (hlim : s1.heap.NoLimit) (hg : s1.gens = #[]) (ha : s1.heap.get? a = some (scr us)) (hr : Room k callerA)
    (F : ∀ base : Heap, K.In base → base.Ns mainGlobals mg → FnG P w K mg base k fa fd [x] sp) (hbind : ∀ (s : Shared) (u : Value), BindsTo s fd ⟨[u], []⟩ [(x, u)])
    (hsp : sp [.ref a] H (fun v _ => v = .bl true) fun _ _ _ => False) (hO : Only H) (hok : HOk P w H s1.heap) (hA : ∀ b, H b ≠ none → b = a) (hK : H a ≠ none → K.lookup a = none) :
    codeAny (model P w) callerA (.call (.ref fa) ⟨[.ref a], []⟩) (Told s1) s1 := by
  -- what is not tracked stands below
  have at_a : ∀ {b : Addr}, H b ≠ none → b = a := fun {b} z => hA b z
  have dict_free : ∀ {b : Addr} {o : Obj} {es : Array DictEntry} {ep : Nat}, s1.heap.get? b = some o → o.data = .dict es ep → H b = none := by
    intro b o es ep e hd
    by_cases z : H b = none
    · exact z
    · rw [at_a z, ha] at e
      have e' := Option.some.inj e
      subst e'
      cases hd
  have ns_low : ∀ {b : Addr} {m : Str → Option Value}, s1.heap.Ns b m → (hidT s1.heap H).Ns b m := by
    rintro b m ⟨o, es, ep, e, d, r⟩
    exact ⟨o, es, ep, hidT_get e (dict_free e d), d, r⟩
  have k_low : K.In (hidT s1.heap H) := fun b o e => hidT_get (KX b o e) (by
    by_cases z : H b = none
    · exact z
    · have eb := at_a z
      rw [eb] at z e
      rw [hK z] at e
      cases e)
  obtain ⟨mc, l1, l2⟩ := hlim
  have md : Mod K mg (hidT s1.heap H) := ⟨k_low, ns_low hns, ⟨mb, ns_low hb, hbb⟩, ⟨mc, ns_low l1, l2⟩⟩
  have e0 : Env0 P w K mg (hidT s1.heap H) callerA [] s1 H :=
    ⟨rfl, md, fun b o e => of_hidT e, Nat.le_of_eq (hidT_size _ _), trivial, fun b z => (nomatch (show b ∈ ([] : List Addr) from z)), hok, .of_eq hg⟩
  refine codeAny_mono ((F _ k_low (ns_low hns)).run callerA [] s1 H ⟨[.ref a], []⟩ [.ref a] [.ref a] _ _ rfl hr e0 (hbind s1 (.ref a)) (.cons rfl .nil) hsp) fun r s' h => ?_
  cases r with
  | error e => exact h.elim
  | ok fl =>
    cases fl with
    | next => exact h.elim
    | brk => exact h.elim
    | cont => exact h.elim
    | ret u =>
      obtain ⟨v, H', os, bare, un, hok', r', q⟩ := h
      have q' : v = .bl true := q
      subst q'
      cases (show u = Value.bool true from r')
      refine ⟨rfl, OldK.of_keep fun b o e => ?_, os, bare⟩
      cases q : H b with
      | none => exact un.keep b o e q (fun z => nomatch (show b ∈ ([] : List Addr) from z)) (fun z => nomatch z)
      | some u =>
        rcases hO b with z | ⟨ob, xs, z⟩
        · rw [q] at z
          cases z
        · have f1 := (hok b _ z).1
          have f2 := (hok' b _ (un.frzs b ob _ z)).1
          rw [e] at f1
          cases f1
          exact f2
theorem law_callG (KX : K.In s1.heap) (hns : s1.heap.Ns mainGlobals mg) (hb : s1.heap.Ns builtinsNs mb) (hbb : ∀ x : Str, x ≠ "__name__" → mb x = bootBuiltins x)
    (hlim : s1.heap.NoLimit) (hg : s1.gens = #[]) (ha : s1.heap.get? a = some (scr us)) (hi : IntsAre us ns) (hl : ns.length ≤ sizeLine) (hr : Room k callerA)
    (F : ∀ base : Heap, K.In base → base.Ns mainGlobals mg → FnG P w K mg base k fa fd [x] sp) (hbind : ∀ (s : Shared) (u : Value), BindsTo s fd ⟨[u], []⟩ [(x, u)])
    (hsp : ∀ H : Hp, Only H → SqL K H a (ns.map V.int) → sp [.ref a] H (fun v _ => v = .bl true) fun _ _ _ => False) :
    codeAny (model P w) callerA (.call (.ref fa) ⟨[.ref a], []⟩) (Told s1) s1 := by
  have rv := vals_ints hi
  cases hk : K.lookup a with
  | some o =>
    have e := KX a o hk
    rw [ha] at e
    have e' := Option.some.inj e
    subst e'
    have only : Only (fun _ => none) := fun _ => .inl rfl
    exact law_at (fun _ => none) KX hns hb hbb hlim hg ha hr F hbind (hsp _ only (.inr ⟨_, us.toArray, _, hk, rfl, rfl, rfl, by rw [List.size_toArray, hi.length]; exact hl, by simpa using rv⟩)) only
      (fun _ _ z => nomatch (show (none : Option HO) = some _ from z)) (fun _ z => absurd rfl z) fun z => absurd rfl z
  | none =>
    let Hs : Hp := fun b => if b = a then some (.frz (scr us) (.lst (ns.map V.int))) else none
    have here : Hs a = some (.frz (scr us) (.lst (ns.map V.int))) := if_pos rfl
    have away : ∀ {b : Addr}, b ≠ a → Hs b = none := fun {b} z => if_neg z
    have only : Only Hs := fun b => by
      by_cases z : b = a
      · rw [z]
        exact .inr ⟨_, _, here⟩
      · exact .inl (away z)
    refine law_at Hs KX hns hb hbb hlim hg ha hr F hbind (hsp _ only (.inl (.inr ⟨_, here⟩))) only (fun b u z => ?_) (fun b z => ?_) fun _ => hk
    · by_cases eb : b = a
      · subst eb
        rw [here] at z
        cases z
        exact ⟨ha, by rw [List.length_map]; exact hl, us, _, rv, ha⟩
      · rw [away eb] at z
        cases z
    · by_cases eb : b = a
      · exact eb
      · exact absurd (away eb) z
end
theorem walk_ofG {l : PySem.W.OpenLaw} {n k : Nat} {q : Program} {loose : List Str} {XP : (Str → Option Value) → Heap → Prop} {YP : World → Heap → Prop} {d : DefRec} {x : Str}
    (hn : l.most = some n) (hn2 : n ≤ sizeLine) (hdf : d.params.defaults = []) (hr : Room k callerA)
    (F : ∀ (w : World) (mg : Str → Option Value) (fa : Addr) (h : Heap), YP w h → h.Ns mainGlobals mg → mg d.name = some (.ref fa) →
      ∃ (K : PySem.W.Frag) (fd : FuncData) (sp : Sp), K.In h ∧ (∀ (s : Shared) (u : Value), BindsTo s fd ⟨[u], []⟩ [(x, u)]) ∧
        (∀ (H : Hp) (a : Addr) (ns : List Int), ns.length ≤ n → Only H → SqL K H a (ns.map V.int) → sp [.ref a] H (fun v _ => v = .bl true) fun _ _ _ => False) ∧
        ∀ base : Heap, K.In base → base.Ns mainGlobals mg → FnG l.prog w K mg base k fa fd [x] sp) :
    PySem.W.WalkO q loose XP YP l.row.toRowW d [] (fun f vs => PySem.call f vs) := by
  refine Att.attach_call hn hdf fun w s0 s1 mg mb fa o pm cd doc a us ns G Y ho hd hcd hmg hobj hints hlen hg => ?_
  obtain ⟨K, fd, sp, KX, hb, hsp, hF⟩ := F w mg fa _ Y G.T.g hmg
  exact law_callG KX G.T.g G.T.b G.T.builtins G.T.nolimit hg hobj hints (Nat.le_trans hlen hn2) hr hF hb fun H hO hS => hsp H a ns hlen hO hS
end L2.EV
set_option Elab.async false
set_option linter.all false
set_option maxRecDepth 100000
set_option maxHeartbeats 4000000
namespace L2.K03
open PySem PySem.Spec PyProof.Rows L2.EV
def prog : Program := PySem.Challenge.pw_withinbooks_k03_manuals_kept_and_compare
def top (i : Nat) : Stmt := prog.main.body.getD i (.Pass ⟨0, 0, 0, 0⟩)
abbrev FnP (K : PySem.W.Frag) (x : Str) (st : Stmt) (f : Addr) (fd : FuncData) : Prop := FunD K x x (defArgs st) (defBody st) (defScope st) [] [] f fd
/-! ### i ** j of greater i -/
theorem op_powX {X : Cx} : OpR X (binaryOp .Pow) (rI (fun i j => 0 ≤ j ∧ (Builtin.Int.intBits i : Int) * j ≤ 2 ^ 27) fun i j => .int (i ^ j.toNat)) :=
  opI fun _ _ _ _ _ _ _ hc q => pow_int hc.1 hc.2 q
/-! ### the mixing -/
abbrev sMix : Stmt := top 34
theorem scMix : FnScope ["_law_seed", "_law_turn", "_law_at", "_law_mixed_here"] ["_law_seed", "_law_turn", "_law_at"] (defScope sMix) := ⟨rfl, rfl, rfl, by decide +kernel, rfl, by decide +kernel, by decide +kernel⟩
def spMix : Sp := fun vs H Q _ => ∃ s t a : Int, vs = [.int s, .int t, .int a] ∧ (0 ≤ s ∧ s < 2 ^ 31) ∧ (0 ≤ t ∧ t < 2 ^ 60) ∧ (0 ≤ a ∧ a < 64) ∧ ∀ r : Int, 0 ≤ r → r < 2 ^ 31 → Q (.int r) H
section
variable {P : Program} {w : World} {K : PySem.W.Frag} {mg : Str → Option Value} {base : Heap} {f : Addr} {fd : FuncData}
theorem ok_mix (F : FnP K "_law_mixed" sMix f fd) (mI : mg "int" = none) : FnOk P w K mg base CX0 1 f fd ["_law_seed", "_law_turn", "_law_at"] spMix := by
  refine F.ok scMix (fun vs H Q E h => ?_) (fun cdv A outer s H vs Q E hr h => ?_)
  · obtain ⟨s, t, a, rfl, _⟩ := h
    rfl
  · obtain ⟨s, t, a, rfl, ⟨s0, s1⟩, ⟨t0, t1⟩, ⟨a0, a1⟩, k⟩ := h
    refine ⟨_, PSs.nox (pss_cons (ps_set (i := 3) scMix.nd rfl (Or.inl rfl) (pe_op op_add (pe_op op_mul (pv 0) pe_int) (pe_op op_mul (pe_op op_mul pe_int (pv 1)) (pv 1))))
      (pss_cons (ps_set (i := 3) scMix.nd rfl (Or.inl rfl) (pe_op op_mod (pe_callTy call_int1 (by rfl) mI (by decide +kernel) (pa_cons (pe_op op_add (pe_op op_add (pv 3) (pe_op op_mul pe_int (pv 2))) (pv 1)) pa_nil)) pe_int))
      (pss_cons (ps_set (i := 3) scMix.nd rfl (Or.inl rfl) (pe_op op_mod (pe_callTy call_int1 (by rfl) mI (by decide +kernel) (pa_cons (pe_op op_add (pe_op op_mul (pv 3) (pv 3)) pe_int) pa_nil)) pe_int))
      (pss_one (ps_ret (pe_op op_mod (pe_callTy call_int1 (by rfl) mI (by decide +kernel) (pa_cons (pe_op op_mul (pv 3) pe_int) pa_nil)) pe_int)))))), ?_⟩
    have md : ∀ (x n : Int), 0 < n → 0 ≤ x % n ∧ x % n < n := fun x n h => ⟨Int.emod_nonneg _ (by omega), Int.emod_lt_of_pos _ h⟩
    refine ⟨_, rfl, _, _, rfl, rfl, .inr ⟨by decide, by decide⟩, _, rfl, _, _, rfl, rfl, .inl ⟨by decide, by decide⟩, _, rfl, _, _, rfl, rfl, .inr ⟨by omega, by omega⟩, _, _, rfl, rfl, ?_⟩
    refine ⟨_, rfl, _, rfl, _, _, rfl, rfl, .inl ⟨by decide, by decide⟩, _, _, rfl, rfl, _, rfl, _, _, rfl, rfl, .inl ⟨_, rfl, _, _, rfl, rfl, (by show (0 : Int) < 2147483647; decide), ?_⟩⟩
    refine ⟨_, rfl, _, rfl, _, _, rfl, rfl, .inl ?_, _, _, rfl, rfl, .inl ⟨_, rfl, _, _, rfl, rfl, (by show (0 : Int) < 2147483629; decide), ?_⟩⟩
    · have z := md (s * 69069 + 104729 * t * t + 7919 * a + t) 2147483647 (by decide)
      exact ⟨by omega, by omega⟩
    refine ⟨_, rfl, _, _, rfl, rfl, .inr ⟨by decide, by decide⟩, .inl ⟨_, rfl, _, _, rfl, rfl, (by show (0 : Int) < 2147483587; decide), ?_⟩⟩
    have z := md ((((s * 69069 + 104729 * t * t + 7919 * a + t) % 2147483647 * ((s * 69069 + 104729 * t * t + 7919 * a + t) % 2147483647) + 40503) % 2147483629) * 48271) 2147483587 (by decide)
    exact k _ z.1 (Int.lt_trans z.2 (by decide))
end
end L2.K03
set_option Elab.async false
set_option linter.all false
set_option maxRecDepth 100000
set_option maxHeartbeats 4000000
namespace L2.K03
open PySem PySem.Spec PyProof.Rows L2.EV
/-! ### a purse: what is left of a great number, the seed, the turns taken (n draws at most), the place -/
def PurseAt (H : Hp) (p : Addr) (n : Nat) : Prop := ∃ c z t a : Int, H p = some (.lst [.int c, .int z, .int t, .int a]) ∧ (0 ≤ z ∧ z < 2 ^ 31) ∧ (0 ≤ t ∧ t ≤ 8 * n) ∧ (0 ≤ a ∧ a < 64)
/-- nothing but p is another thing -/
def But (p : Addr) (H H' : Hp) : Prop := ∀ b, b ≠ p → H' b = H b
theorem But.refl (p : Addr) (H : Hp) : But p H H := fun _ _ => rfl
theorem But.trans {p : Addr} {H H1 H2 : Hp} (a : But p H H1) (b : But p H1 H2) : But p H H2 := fun c h => (b c h).trans (a c h)
theorem but_upd {p : Addr} {H : Hp} {o : HO} : But p H (upd H p o) := fun _ h => upd_ne h
abbrev sDraw : Stmt := top 35
theorem scDraw : FnScope ["_law_purse_here", "_law_many", "_law_drawn", "_law_found", "_law_piece"] ["_law_purse_here", "_law_many"] (defScope sDraw) := ⟨rfl, rfl, rfl, by decide +kernel, rfl, by decide +kernel, by decide +kernel⟩
def spDraw : Sp := fun vs H Q _ => ∃ (p : Addr) (m : Int) (n : Nat), vs = [.ref p, .int m] ∧ (0 < m ∧ m < 2 ^ 200) ∧ PurseAt H p n ∧ n < 2 ^ 50 ∧
  ∀ (r : Int) (H' : Hp), 0 ≤ r → r < m → PurseAt H' p (n + 1) → But p H H' → Q (.int r) H'
section
variable {P : Program} {w : World} {K : PySem.W.Frag} {mg : Str → Option Value} {base : Heap} {f fM : Addr} {fd fdM : FuncData}
theorem ok_draw (F : FnP K "_law_draw" sDraw f fd) (FM : FnP K "_law_mixed" sMix fM fdM) (gM : mg "_law_mixed" = some (.ref fM)) (mI : mg "int" = none) (mR : mg "range" = none) :
    FnOk P w K mg base CX0 2 f fd ["_law_purse_here", "_law_many"] spDraw := by
  have GM : FnOk P w K mg base CX0 1 fM fdM ["_law_seed", "_law_turn", "_law_at"] spMix := ok_mix FM mI
  have bM : Binds K fdM ["_law_seed", "_law_turn", "_law_at"] [] := FM.bindsN fun _ _ _ _ _ _ us hl => match us, hl with | [_, _, _], _ => rfl
  refine F.ok scDraw (fun vs H Q E h => ?_) (fun cdv A outer s H vs Q E hr h => ?_)
  · obtain ⟨p, m, n, rfl, _⟩ := h
    rfl
  · obtain ⟨p, m, n, rfl, ⟨m0, m1⟩, ⟨c, z, t, a, hp, hz, ht, ha⟩, hn, k⟩ := h
    refine ⟨_, PSs.nox (pss_cons (ps_if (pt_cmpR op_gt (pe_ix ix_list (pv 0) pe_int (fun _ _ => rfl)) pe_int (nomark _))
        (pss_cons (ps_set (i := 2) scDraw.nd rfl (Or.inl rfl) (pe_op op_mod (pe_callTy call_int1 (by rfl) mI (by decide +kernel) (pa_cons (pe_ix ix_list (pv 0) pe_int (fun _ _ => rfl)) pa_nil)) (pv 1)))
        (pss_cons (ps_asg (pe_op op_fdivW (pe_ix ix_list (pv 0) pe_int (fun _ _ => rfl)) (pv 1)) (pg_sub (pv 0) pe_int set_list))
        (pss_one (ps_ret (pv 2))))) pss_nil)
      (pss_cons (ps_set (i := 3) scDraw.nd rfl (Or.inl rfl) pe_int)
      (pss_cons (ps_for PassesOwn.never rfl (pi_range1 (by rfl) mR (pa_cons (pe_op op_add pe_int (pe_op op_fdiv (pe_bits (pv 1)) pe_int)) pa_nil)) (pg_name (i := 4) scDraw.nd rfl (Or.inl rfl))
        (pss_cons (ps_asg (pe_op op_add (pe_ix ix_list (pv 0) pe_int (fun _ _ => rfl)) pe_int) (pg_sub (pv 0) pe_int set_list))
        (pss_one (ps_set (i := 3) scDraw.nd rfl (Or.inl rfl) (pe_op op_add (pe_op op_mul (pv 3) pe_int)
          (pe_call GM hr (by rfl) gM FM.kp bM .nil pass0 (pa_cons (pe_ix ix_list (pv 0) pe_int (fun _ _ => rfl)) (pa_cons (pe_ix ix_list (pv 0) pe_int (fun _ _ => rfl)) (pa_cons (pe_ix ix_list (pv 0) pe_int (fun _ _ => rfl)) pa_nil)))))))))
      (pss_one (ps_ret (pe_op op_mod (pe_callTy call_int1 (by rfl) mI (by decide +kernel) (pa_cons (pv 3) pa_nil)) (pv 1))))))), ?_⟩
    have it0 : ∀ {x0 x1 x2 x3 : V}, atI [x0, x1, x2, x3] 0 = some x0 := rfl
    have it1 : ∀ {x0 x1 x2 x3 : V}, atI [x0, x1, x2, x3] 1 = some x1 := rfl
    have it2 : ∀ {x0 x1 x2 x3 : V}, atI [x0, x1, x2, x3] 2 = some x2 := rfl
    have it3 : ∀ {x0 x1 x2 x3 : V}, atI [x0, x1, x2, x3] 3 = some x3 := rfl
    refine ⟨_, rfl, p, _, _, _, rfl, rfl, SqL.of hp, it0, _, _, rfl, rfl, _, rfl, ?_⟩
    refine ite2 (fun _ => ?_) (fun _ => ?_)
    · refine ⟨_, rfl, p, _, _, _, rfl, rfl, SqL.of hp, it0, .inl ⟨_, rfl, _, rfl, _, _, rfl, rfl, m0, ?_⟩⟩
      refine ⟨_, rfl, p, _, _, _, rfl, rfl, SqL.of hp, it0, _, rfl, _, _, rfl, rfl, wide_div (b := 200) m0 (by omega) (by decide) (by decide), ?_⟩
      refine ⟨_, rfl, p, _, _, 0, rfl, rfl, hp, rfl, _, rfl, ?_⟩
      exact k _ _ (Int.emod_nonneg _ (by omega)) (Int.emod_lt_of_pos _ m0) ⟨_, z, t, a, upd_same, hz, ⟨ht.1, by omega⟩, ha⟩ but_upd
    · have hbits : Builtin.Int.intBits m ≤ 200 := intBits_le (k := 200) (by omega)
      have hq : (0 : Int) ≤ (Builtin.Int.intBits m : Int) / 28 ∧ (Builtin.Int.intBits m : Int) / 28 ≤ 7 := ⟨by omega, by omega⟩
      refine ⟨_, rfl, m, rfl, _, _, rfl, rfl, ⟨by decide, by decide⟩, _, _, rfl, rfl, _, rfl, by omega, by omega, ?_⟩
      refine for_range (fun i σ H' => ∃ (fv : Int) (v4 : Option V), σ = [some (.ref p), some (.int m), none, some (.int fv), v4] ∧ H' p = some (.lst [.int c, .int z, .int (t + i), .int a]) ∧ But p H H')
        ⟨0, none, rfl, by simpa using hp, But.refl _ _⟩ ?_ ?_
      · rintro i σ H' hi ⟨fv, v4, rfl, h1, bt⟩
        have hi' : (i : Int) < 8 := by omega
        have h2 : upd H' p (.lst [.int c, .int z, .int (t + i + 1), .int a]) p = some (.lst [.int c, .int z, .int (t + i + 1), .int a]) := upd_same
        refine ⟨_, rfl, p, _, _, _, rfl, rfl, SqL.of h1, it2, _, _, rfl, rfl, _, rfl, p, _, _, 2, rfl, rfl, h1, rfl, ?_⟩
        refine ⟨_, rfl, _, _, rfl, rfl, .inr ⟨by decide, by decide⟩, ?_⟩
        refine ⟨_, rfl, p, _, _, _, rfl, rfl, SqL.of h2, it1, _, rfl, p, _, _, _, rfl, rfl, SqL.of h2, it2, _, rfl, p, _, _, _, rfl, rfl, SqL.of h2, it3, ?_⟩
        refine ⟨z, t + i + 1, a, rfl, hz, ⟨by omega, by omega⟩, ha, fun r r0 r1 => ?_⟩
        refine ⟨_, _, rfl, rfl, _, _, rfl, ?_, bt.trans but_upd⟩
        have e : t + (i : Int) + 1 = t + ((i + 1 : Nat) : Int) := by omega
        show upd H' p (HO.lst [V.int c, V.int z, V.int (t + (i : Int) + 1), V.int a]) p = _
        rw [upd_same, e]
      · rintro σ H' ⟨fv, v4, rfl, h1, bt⟩
        refine ⟨_, rfl, .inl ⟨_, rfl, _, rfl, _, _, rfl, rfl, m0, ?_⟩⟩
        exact k _ _ (Int.emod_nonneg _ (by omega)) (Int.emod_lt_of_pos _ m0) ⟨c, z, _, a, h1, hz, ⟨by omega, by omega⟩, ha⟩ bt
end
end L2.K03
set_option Elab.async false
set_option linter.all false
set_option maxRecDepth 100000
set_option maxHeartbeats 4000000
namespace L2.K03
open PySem PySem.Spec PyProof.Rows L2.EV
theorem same_upd {H : Hp} {p : Addr} {o : HO} (h : H p = none) : Same H (upd H p o) := fun b u e => by
  rw [upd_ne (ne_of_none e h)]
  exact e
theorem PurseAt.up {H : Hp} {p : Addr} {n m : Nat} (h : PurseAt H p n) (hm : n ≤ m) : PurseAt H p m := by
  obtain ⟨c, z, t, a, h1, h2, h3, h4⟩ := h
  exact ⟨c, z, t, a, h1, h2, ⟨h3.1, by omega⟩, h4⟩
theorem PurseAt.same {H H' : Hp} {p : Addr} {n : Nat} (h : PurseAt H p n) (s : Same H H') : PurseAt H' p n := by
  obtain ⟨c, z, t, a, h1, h2⟩ := h
  exact ⟨c, z, t, a, s _ _ h1, h2⟩
theorem PurseAt.but {H H' : Hp} {p q : Addr} {n : Nat} (h : PurseAt H p n) (s : But q H H') (ne : p ≠ q) : PurseAt H' p n := by
  obtain ⟨c, z, t, a, h1, h2⟩ := h
  exact ⟨c, z, t, a, (s p ne).trans h1, h2⟩
theorem PurseAt.some {H : Hp} {p : Addr} {n : Nat} (h : PurseAt H p n) : ∃ o, H p = some o := by
  obtain ⟨c, z, t, a, h1, h2⟩ := h
  exact ⟨_, h1⟩
/-! ### one purse -/
abbrev sPurse : Stmt := top 33
theorem scPurse : FnScope ["_law_script", "_law_at", "_law_seed"] ["_law_script", "_law_at"] (defScope sPurse) := ⟨rfl, rfl, rfl, by decide +kernel, rfl, by decide +kernel, by decide +kernel⟩
def spPurse (K : PySem.W.Frag) : Sp := fun vs H Q _ => ∃ (a : Addr) (ns : List Int) (i : Int), vs = [.ref a, .int i] ∧ SqL K H a (ns.map V.int) ∧ (0 ≤ i ∧ i < 64) ∧
  ∀ (p : Addr) (H' : Hp), PurseAt H' p 0 → Same H H' → H p = none → Q (.ref p) H'
theorem cutV_ints (ns : List Int) (lo hi : Option Int) : ∃ ms : List Int, cutV (ns.map V.int) lo hi = ms.map V.int :=
  ⟨(ns.drop (HT.sIx (ns.map V.int).length 0 lo)).take (HT.sIx (ns.map V.int).length (ns.map V.int).length hi - HT.sIx (ns.map V.int).length 0 lo), by
    unfold cutV
    rw [List.map_take, List.map_drop]⟩
section
variable {P : Program} {w : World} {K : PySem.W.Frag} {mg : Str → Option Value} {base : Heap} {f fP fD : Addr} {fd fdP fdD : FuncData}
theorem ok_purse (F : FnP K "_law_purse" sPurse f fd) (mS : mg "sum" = none) (mI : mg "int" = none) (mM : mg "max" = none) :
    FnOk P w K mg base CX0 1 f fd ["_law_script", "_law_at"] (spPurse K) := by
  refine F.ok scPurse (fun vs H Q E h => ?_) (fun cdv A outer s H vs Q E hr h => ?_)
  · obtain ⟨a, ns, i, rfl, _⟩ := h
    rfl
  · obtain ⟨a, ns, i, rfl, hS, hi, k⟩ := h
    refine ⟨_, PSs.nox (pss_cons (ps_set (i := 2) scPurse.nd rfl (Or.inl rfl) (pe_callB (cr_sum rfl) (by rfl) mS (by decide +kernel) (pa_cons (pe_slice sl_list (pv 0) (po_some (pv 1)) (po_some (pe_op op_add (pv 1) pe_int))) pa_nil)))
      (pss_one (ps_ret (pe_lst (pa_cons (pe_op op_mod (pe_callTy call_int1 (by rfl) mI (by decide +kernel) (pa_cons (pe_callB (call_max2 rfl) (by rfl) mM (by decide +kernel) (pa_cons (pe_op op_sub (pv 2) (pe_op op_powX pe_int pe_int)) (pa_cons pe_int pa_nil))) pa_nil)) (pe_op op_powX (pe_op op_powX pe_int pe_int) pe_int))
        (pa_cons (pe_op op_mod (pe_callTy call_int1 (by rfl) mI (by decide +kernel) (pa_cons (pv 2) pa_nil)) pe_int) (pa_cons pe_int (pa_cons (pv 1) pa_nil)))))))), ?_⟩
    obtain ⟨ms, hms⟩ := cutV_ints ns (some i) (some (i + 1))
    refine ⟨_, rfl, _, rfl, _, rfl, _, rfl, _, _, rfl, rfl, _, rfl, _, _, rfl, hS, fun l hl => ?_⟩
    have s1 := same_upd (o := .lst (cutV (ns.map V.int) (some i) (some (i + 1)))) hl
    refine ⟨l, ms, rfl, SqL.of (by rw [← hms]; exact upd_same), ?_⟩
    refine ⟨_, rfl, _, _, rfl, rfl, ⟨by decide, by decide +kernel⟩, _, _, rfl, rfl, _, _, rfl, .inl ⟨_, rfl, _, _, rfl, rfl, ⟨by decide, by decide +kernel⟩, _, _, rfl, rfl, ⟨by decide, by decide +kernel⟩, _, _, rfl, rfl, (by show (0 : Int) < ((10 : Int) ^ (60 : Int).toNat) ^ (8 : Int).toNat; decide +kernel), ?_⟩⟩
    refine ⟨_, rfl, .inl ⟨_, rfl, _, _, rfl, rfl, (by show (0 : Int) < 2147483629; decide), _, rfl, (by show 4 ≤ sizeLine; decide), fun p hp => ?_⟩⟩
    refine k p _ ⟨_, _, _, _, upd_same, ⟨Int.emod_nonneg _ (by decide), Int.lt_trans (Int.emod_lt_of_pos _ (by decide)) (by decide)⟩, ⟨by decide, by decide⟩, hi⟩ (s1.trans (same_upd hp)) (s1.free hp)
end
/-! ### the purses -/
abbrev sPurses : Stmt := top 36
abbrev nPurses : List Str := ["_law_script", "_law_few", "_law_at"]
theorem scPurses : FnScope nPurses ["_law_script", "_law_few"] (defScope sPurses) := ⟨rfl, rfl, rfl, by decide +kernel, rfl, by decide +kernel, by decide +kernel⟩
def spPurses (K : PySem.W.Frag) : Sp := fun vs H Q _ => ∃ (a : Addr) (ns : List Int) (c : Int), vs = [.ref a, .int c] ∧ SqL K H a (ns.map V.int) ∧ ns.length ≤ 63 ∧ (0 ≤ c ∧ c < 64) ∧
  ∀ (l : Addr) (ps : List Addr) (H' : Hp), ps.length ≤ 64 → H' l = some (.lst (ps.map V.ref)) → (∀ p ∈ ps, PurseAt H' p 0 ∧ p ≠ l) → Same H H' → Q (.ref l) H'
section
variable {P : Program} {w : World} {K : PySem.W.Frag} {mg : Str → Option Value} {base : Heap} {f fP fD : Addr} {fd fdP fdD : FuncData}
theorem ok_purses (F : FnP K "_law_purses" sPurses f fd) (FP : FnP K "_law_purse" sPurse fP fdP) (gP : mg "_law_purse" = some (.ref fP)) (mS : mg "sum" = none) (mI : mg "int" = none) (mM : mg "max" = none) (mN : mg "min" = none) (mL : mg "len" = none) (mR : mg "range" = none) :
    FnOk P w K mg base CX0 2 f fd ["_law_script", "_law_few"] (spPurses K) := by
  have GP : FnOk P w K mg base CX0 1 fP fdP ["_law_script", "_law_at"] (spPurse K) := ok_purse FP mS mI mM
  have bP : Binds K fdP ["_law_script", "_law_at"] [] := FP.bindsN fun _ _ _ _ _ _ us hl => match us, hl with | [_, _], _ => rfl
  refine F.ok scPurses (fun vs H Q E h => ?_) (fun cdv A outer s H vs Q E hr h => ?_)
  · obtain ⟨a, ns, c, rfl, _⟩ := h
    rfl
  · obtain ⟨a, ns, c, rfl, hS, hl63, hc, k⟩ := h
    refine ⟨_, PSs.nox (pss_one (ps_ret (pe_lc (own := [("_law_at", 2)]) (g := gName 2) (tt := tYes) (by rfl) scPurses.nd
      (pi_range1 (by rfl) mR (pa_cons (pe_callB (call_max2 rfl) (by rfl) mM (by decide +kernel) (pa_cons pe_int (pa_cons (pe_callB (call_min2 rfl) (by rfl) mN (by decide +kernel) (pa_cons (pv 1) (pa_cons (pe_callB call_len_seq (by rfl) mL PySem.boot_len (pa_cons (pv 0) pa_nil)) pa_nil))) pa_nil))) pa_nil))
      (blkOk_by (own := [("_law_at", 2)]) (N := nPurses) (sc := defScope sPurses) (by decide +kernel)) (fun _ _ _ _ _ => pg_name (i := 2) scPurses.nd rfl (Or.inl rfl)) (fun _ _ _ _ _ => pts_nil)
      (fun _ _ _ _ _ => pe_call GP hr (by rfl) gP FP.kp bP .nil pass0 (pa_cons (pv 0) (pa_cons (pv 2) pa_nil)))))), ?_⟩
    refine ⟨_, rfl, _, rfl, a, _, rfl, .inl hS, _, _, rfl, _, _, rfl, ?_⟩
    rw [List.length_map]
    generalize hj : (if (if (ns.length : Int) < c then (ns.length : Int) else c) > 1 then (if (ns.length : Int) < c then (ns.length : Int) else c) else 1) = j
    have hj1 : 1 ≤ j ∧ j ≤ 64 := by
      rw [← hj]
      split <;> split <;> omega
    refine ⟨j, rfl, by omega, by omega, fun D hD => ?_⟩
    refine lc_range (lo := 0) (n := j.toNat) (fun i H' => ∃ ps : List Addr, ps.length = i ∧ H' D = some (.lst (ps.map V.ref)) ∧ (∀ p ∈ ps, PurseAt H' p 0 ∧ p ≠ D) ∧ Same H H')
      ⟨[], rfl, upd_same, (fun _ z => absurd z List.not_mem_nil), same_upd hD⟩ ?_ ?_
    · rintro i H' hi ⟨ps, hlen, hl, hp, s1⟩
      refine ⟨rfl, ?_⟩
      dsimp only [tYes]
      rw [if_pos rfl]
      refine ⟨_, rfl, _, rfl, a, ns, _, rfl, s1.seq hS, ⟨by omega, by omega⟩, fun p H2 h1 s2 hn => ?_⟩
      have hl2 := s2 _ _ hl
      have ne : p ≠ D := by
        intro e
        rw [e, hl] at hn
        cases hn
      refine ⟨_, hl2, by rw [List.length_map, hlen]; exact small1000 (by omega), ps ++ [p], by simp [hlen], ?_, fun q hq => ?_, fun b o e => ?_⟩
      · rw [upd_same]
        simp
      · have nq : ∀ q, q ≠ D → PurseAt H2 q 0 → PurseAt (upd H2 D (.lst (ps.map V.ref ++ [.ref p]))) q 0 ∧ q ≠ D := fun q n h => ⟨h.but but_upd n, n⟩
        rcases List.mem_append.mp hq with z | z
        · exact nq q (hp q z).2 ((hp q z).1.same s2)
        · have e : q = p := by simpa using z
          subst e
          exact nq q ne h1
      · rw [upd_ne (ne_of_none e hD)]
        exact s2 _ _ (s1 _ _ e)
    · rintro H' ⟨ps, hlen, hl, hp, s1⟩
      exact k D ps H' (by omega) hl hp s1
end
end L2.K03
set_option Elab.async false
set_option linter.all false
set_option maxRecDepth 100000
set_option maxHeartbeats 4000000
namespace L2.K03
open PySem PySem.Spec PyProof.Rows L2.EV
/-! ### one of some -/
abbrev sOne : Stmt := top 37
theorem scOne : FnScope ["_law_purse_here", "_law_some_here"] ["_law_purse_here", "_law_some_here"] (defScope sOne) := ⟨rfl, rfl, rfl, by decide +kernel, rfl, by decide +kernel, by decide +kernel⟩
def spOne : Sp := fun vs H Q _ => ∃ (p l : Addr) (xs : List V) (n : Nat), vs = [.ref p, .ref l] ∧ H l = some (.lst xs) ∧ l ≠ p ∧ (0 < xs.length ∧ xs.length < 2 ^ 200) ∧ PurseAt H p n ∧ n < 2 ^ 50 ∧
  ∀ (i : Nat) (x : V) (H' : Hp), xs[i]? = some x → PurseAt H' p (n + 1) → But p H H' → Q x H'
section
variable {P : Program} {w : World} {K : PySem.W.Frag} {mg : Str → Option Value} {base : Heap} {f fD : Addr} {fd fdD : FuncData}
theorem ok_one (F : FnP K "_law_one_of" sOne f fd) (GD : FnOk P w K mg base CX0 2 fD fdD ["_law_purse_here", "_law_many"] spDraw) (bD : Binds K fdD ["_law_purse_here", "_law_many"] []) (kD : PySem.W.keepIn K (.ref fD) = true)
    (gD : mg "_law_draw" = some (.ref fD)) (mL : mg "len" = none) : FnOk P w K mg base CX0 3 f fd ["_law_purse_here", "_law_some_here"] spOne := by
  refine F.ok scOne (fun vs H Q E h => ?_) (fun cdv A outer s H vs Q E hr h => ?_)
  · obtain ⟨p, l, xs, n, rfl, _⟩ := h
    rfl
  · obtain ⟨p, l, xs, n, rfl, hl, ne, hx, hp, hn, k⟩ := h
    refine ⟨_, PSs.nox (pss_one (ps_ret (pe_ix ix_list (pv 1) (pe_call GD hr (by rfl) gD kD bD .nil pass0 (pa_cons (pv 0) (pa_cons (pe_callB call_len_seq (by rfl) mL PySem.boot_len (pa_cons (pv 1) pa_nil)) pa_nil))) (fun _ _ => rfl)))), ?_⟩
    refine ⟨_, rfl, _, rfl, _, rfl, l, xs, rfl, .inl (SqL.of hl), ?_⟩
    refine ⟨p, _, n, rfl, ⟨by omega, by omega⟩, hp, hn, fun r H' r0 r1 h1 bt => ?_⟩
    obtain ⟨i, rfl⟩ := Int.eq_ofNat_of_zero_le r0
    have hi : i < xs.length := by omega
    have hg : xs[i]? = some xs[i] := List.getElem?_eq_getElem hi
    exact ⟨l, xs, i, xs[i], rfl, rfl, SqL.of ((bt l ne).trans hl), atI_nat hg, k i _ H' hg h1 bt⟩
end
/-! ### a word -/
def Word (x : Str) : Prop := (1 ≤ x.length ∧ x.length ≤ 8) ∧ ∀ c ∈ x.cps.toList, 97 ≤ c ∧ c ≤ 122
theorem Word.codes {x : Str} (h : Word x) : Codes x := fun c hc => Nat.lt_of_le_of_lt (h.2 c hc).2 (by decide)
abbrev abc : Str := "abcdefghijklmnopqrstuvwxyz"
abbrev sWord : Stmt := top 40
abbrev nWord : List Str := ["_law_purse_here", "_law_size", "_law_turn"]
theorem scWord : FnScope nWord ["_law_purse_here"] (defScope sWord) := ⟨rfl, rfl, rfl, by decide +kernel, rfl, by decide +kernel, by decide +kernel⟩
def spWord : Sp := fun vs H Q _ => ∃ (p : Addr) (n : Nat), vs = [.ref p] ∧ PurseAt H p n ∧ n < 2 ^ 40 ∧
  ∀ (x : Str) (H' : Hp), Word x → PurseAt H' p (n + 10) → (∀ b o, b ≠ p → H b = some o → H' b = some o) → Q (.str x) H'
theorem joinL_nil : ∀ xs : List (List Nat), TL.joinL [] xs = xs.flatten
  | [] => rfl
  | [p] => by simp [TL.joinL]
  | p :: q :: r => by
    show p ++ ([] ++ TL.joinL [] (q :: r)) = _
    rw [joinL_nil (q :: r)]
    simp
/-- one sign of the alphabet -/
def Sign (y : Str) : Prop := ∃ c, y = ⟨#[c]⟩ ∧ 97 ≤ c ∧ c ≤ 122
theorem join_signs {ys : List Str} (h : ∀ y ∈ ys, Sign y) (h1 : 1 ≤ ys.length) (h8 : ys.length ≤ 8) : Word (Txt.join ("" : Str) ys) := by
  have e : TL.tl (Txt.join ("" : Str) ys) = (ys.map TL.tl).flatten := by
    rw [TL.join_eq, TL.tl_join]
    exact joinL_nil _
  have len : ∀ zs : List Str, (∀ y ∈ zs, Sign y) → ((zs.map TL.tl).flatten).length = zs.length := by
    intro zs
    induction zs with
    | nil => intro _; rfl
    | cons z zs ih =>
      intro hz
      obtain ⟨c, rfl, _⟩ := hz z List.mem_cons_self
      have q := ih fun y hy => hz y (List.mem_cons_of_mem _ hy)
      rw [List.map_cons, List.flatten_cons, List.length_append, q]
      show 1 + zs.length = zs.length + 1
      omega
  have hl : (Txt.join ("" : Str) ys).length = ys.length := by
    rw [← len ys h, ← e]
    show (Txt.join ("" : Str) ys).cps.size = _
    rw [Array.length_toList]
  refine ⟨by omega, fun c hc => ?_⟩
  rw [show (Txt.join ("" : Str) ys).cps.toList = (ys.map TL.tl).flatten from e] at hc
  obtain ⟨z, hz, hcz⟩ := List.mem_flatten.mp hc
  obtain ⟨y, hy, rfl⟩ := List.mem_map.mp hz
  obtain ⟨d, rfl, hd⟩ := h y hy
  have ec : c = d := by simpa using hcz
  rw [ec]
  exact hd
theorem sign_at {i : Nat} (h : i < 26) : ∃ c, abc.cps.toList[i]? = some c ∧ 97 ≤ c ∧ c ≤ 122 := by
  have e : abc.cps.toList = (List.range 26).map (· + 97) := by decide +kernel
  refine ⟨i + 97, ?_, by omega, by omega⟩
  rw [e, List.getElem?_map, List.getElem?_range h]
  rfl
section
variable {P : Program} {w : World} {K : PySem.W.Frag} {mg : Str → Option Value} {base : Heap} {f fD : Addr} {fd fdD : FuncData}
theorem ok_word (F : FnP K "_law_word" sWord f fd) (GD : FnOk P w K mg base CX0 2 fD fdD ["_law_purse_here", "_law_many"] spDraw) (bD : Binds K fdD ["_law_purse_here", "_law_many"] []) (kD : PySem.W.keepIn K (.ref fD) = true)
    (gD : mg "_law_draw" = some (.ref fD)) (mR : mg "range" = none) : FnOk P w K mg base CX0 3 f fd ["_law_purse_here"] spWord := by
  refine F.ok scWord (fun vs H Q E h => ?_) (fun cdv A outer s H vs Q E hr h => ?_)
  · obtain ⟨p, n, rfl, _⟩ := h
    rfl
  · obtain ⟨p, n, rfl, hp, hn, k⟩ := h
    refine ⟨_, PSs.nox (pss_cons (ps_set (i := 1) scWord.nd rfl (Or.inl rfl) (pe_op op_add pe_int (pe_call GD hr (by rfl) gD kD bD .nil pass0 (pa_cons (pv 0)
          (pa_cons (pe_ifExp (pt_cmpR op_eq (pe_call GD hr (by rfl) gD kD bD .nil pass0 (pa_cons (pv 0) (pa_cons pe_int pa_nil))) pe_int (nomark _)) pe_int pe_int) pa_nil)))))
      (pss_one (ps_ret (pe_join pe_str (pe_lc (own := [("_law_turn", 2)]) (g := gName 2) (tt := tYes) (by rfl) scWord.nd
        (pi_range1 (by rfl) mR (pa_cons (pv 1) pa_nil))
        (blkOk_by (own := [("_law_turn", 2)]) (N := nWord) (sc := defScope sWord) (by decide +kernel)) (fun _ _ _ _ _ => pg_name (i := 2) scWord.nd rfl (Or.inl rfl)) (fun _ _ _ _ _ => pts_nil)
        (fun _ _ _ _ _ => pe_ix ix_str pe_str (pe_call GD hr (by rfl) gD kD bD .nil pass0 (pa_cons (pv 0) (pa_cons pe_int pa_nil))) (fun _ _ => rfl))))))), ?_⟩
    refine ⟨_, rfl, _, rfl, ?_⟩
    refine ⟨p, 3, n, rfl, ⟨by decide, by decide⟩, hp, by omega, fun r1 H1 _ _ p1 b1 => ⟨rfl, _, rfl, ?_⟩⟩
    -- eight signs at most, or three
    refine ite2 (fun _ => ?_) (fun _ => ?_)
    all_goals
      refine ⟨p, _, n + 1, rfl, ⟨by decide, by decide⟩, p1, by omega, fun r2 H2 q0 q1 p2 b2 => ⟨_, _, rfl, rfl, ?_⟩⟩
      obtain ⟨m, rfl⟩ := Int.eq_ofNat_of_zero_le q0
      refine ⟨⟨_, rfl⟩, _, rfl, _, rfl, by omega, by omega, fun D hD => ?_⟩
      have em : (1 + (m : Int)).toNat = m + 1 := by omega
      rw [em]
      refine lc_range (lo := 0) (n := m + 1) (fun i H' => ∃ ys : List Str, ys.length = i ∧ H' D = some (.lst (ys.map V.str)) ∧ (∀ y ∈ ys, Sign y) ∧ PurseAt H' p (n + 2 + i) ∧ (∀ b o, b ≠ p → H b = some o → H' b = some o) ∧ p ≠ D)
        ⟨[], rfl, upd_same, (fun _ z => absurd z List.not_mem_nil), ?_, fun b o nb e => ?_, ?_⟩ ?_ ?_
      · obtain ⟨o, eo⟩ := p2.some
        exact (p2.but but_upd (ne_of_none eo hD))
      · have e2 : H2 b = some o := (b2 b nb).trans ((b1 b nb).trans e)
        rw [upd_ne (ne_of_none e2 hD)]
        exact e2
      · obtain ⟨o, eo⟩ := p2.some
        exact ne_of_none eo hD
      · rintro i H' hi ⟨ys, hlen, hl, hy, hp', kp, nD⟩
        refine ⟨rfl, ?_⟩
        dsimp only [tYes]
        rw [if_pos rfl]
        refine ⟨_, rfl, p, 26, n + 2 + i, rfl, ⟨by decide, by decide⟩, hp', by omega, fun r H3 s0 s1 p3 b3 => ?_⟩
        obtain ⟨j, rfl⟩ := Int.eq_ofNat_of_zero_le s0
        obtain ⟨c, hc, hcb⟩ := sign_at (i := j) (by omega)
        have hl3 : H3 D = some (.lst (ys.map V.str)) := (b3 D (Ne.symm nD)).trans hl
        refine ⟨abc, j, c, rfl, rfl, (by decide +kernel), atI_nat hc, ?_⟩
        refine ⟨_, hl3, by rw [List.length_map, hlen]; exact small1000 (by omega), ys ++ [⟨#[c]⟩], by simp [hlen], ?_, fun y hy' => ?_, ?_, fun b o nb e => ?_, nD⟩
        · rw [upd_same]
          simp
        · rcases List.mem_append.mp hy' with z | z
          · exact hy y z
          · exact ⟨c, by simpa using z, hcb⟩
        · exact p3.but but_upd nD
        · have e3 : H3 b = some o := (b3 b nb).trans (kp b o nb e)
          by_cases eb : b = D
          · subst eb
            have e2 : H2 b = some o := (b2 b nb).trans ((b1 b nb).trans e)
            rw [hD] at e2
            cases e2
          · rw [upd_ne eb]
            exact e3
      · rintro H' ⟨ys, hlen, hl, hy, hp', kp, nD⟩
        have sum_le : ∀ zs : List Str, (∀ y ∈ zs, Sign y) → (zs.map (·.length)).sum = zs.length := by
          intro zs
          induction zs with
          | nil => intro _; rfl
          | cons z zs ih =>
            intro hz
            obtain ⟨c, rfl, _⟩ := hz z List.mem_cons_self
            have q := ih fun y hy => hz y (List.mem_cons_of_mem _ hy)
            rw [List.map_cons, List.sum_cons, q]
            show 1 + zs.length = zs.length + 1
            omega
        refine ⟨_, D, ys, rfl, rfl, .inl (SqL.of hl), ?_, ?_⟩
        · rw [sum_le ys hy]
          show ys.length + ys.length * 0 ≤ 16777216
          omega
        · exact k _ H' (join_signs hy (by omega) (by omega)) (hp'.up (by omega)) kp
end
end L2.K03
set_option Elab.async false
set_option linter.all false
set_option maxRecDepth 100000
set_option maxHeartbeats 4000000
namespace L2.K03
open PySem PySem.Spec PyProof.Rows L2.EV
/-! ### list of a text: its signs -/
def signs (z : Str) : List Str := z.cps.toList.map fun c => ⟨#[c]⟩
theorem vals_signs {x : Str} : ∀ (its : List Value) (k : Nat), (∀ j v, its[j]? = some v → SignAt x (k + j) v) → its.length + k = x.cps.size → Vals (((x.cps.toList.drop k).map fun c => (⟨#[c]⟩ : Str)).map V.str) its
  | [], k, _, hl => by
    have : x.cps.toList.drop k = [] := List.drop_eq_nil_iff.mpr (by simp at hl ⊢; omega)
    rw [this]
    exact .nil
  | v :: its, k, h, hl => by
    have hk : k < x.cps.toList.length := by simp at hl ⊢; omega
    rw [List.drop_eq_getElem_cons hk]
    obtain ⟨c, u, hc, rfl⟩ := h 0 v rfl
    rw [Nat.add_zero] at hc
    have ec : x.cps.toList[k] = c := by
      have : x.cps.toList[k]? = some c := by rw [Array.getElem?_toList]; exact hc
      rw [List.getElem?_eq_getElem hk] at this
      exact Option.some.inj this
    refine .cons ?_ (vals_signs its (k + 1) (fun j w e => ?_) (by simp at hl ⊢; omega))
    · rw [ec]
      exact ⟨u, rfl⟩
    · have := h (j + 1) w (by simpa using e)
      rw [show k + (j + 1) = k + 1 + j by omega] at this
      exact this
theorem call_list_strV {X : Cx} (hc : X.calm = true) : CallR X (.type "list") (fun xs H Q => ∃ z, xs = [.str z] ∧ z.cps.size ≤ sizeLine ∧ ∀ l, H l = none → Q (.ref l) (upd H l (.lst ((signs z).map V.str)))) := by
  intro pins s σ H xs us Q I r h
  obtain ⟨z, rfl, hz, q⟩ := h
  obtain ⟨u, rfl, t, rfl⟩ := vals1 r
  refine PySem.call_list_str (I.ok.hd hc) z t (fun h' tk acc' c' kp e hi => ?_) hz
  obtain ⟨h1, h2⟩ := hi
  have rv := vals_signs (x := z) acc'.toList 0 (fun j v e => by rw [Nat.zero_add]; exact h2 j v (by rw [← Array.getElem?_toList]; exact e)) (by simp [h1])
  rw [List.drop_zero] at rv
  refine ⟨.ref s.heap.objs.size, _, I.laid (t' := tk) kp (Nat.le_refl _) (show ObjOk X.prog X.w _ h' _ (.lst ((signs z).map V.str)) from ⟨?_, acc'.toList, c', rv, e⟩), rfl, q _ (I.hok.fresh (Nat.le_refl _))⟩
  rw [List.length_map]
  unfold signs
  rw [List.length_map, Array.length_toList]
  exact hz
end L2.K03
set_option Elab.async false
set_option linter.all false
set_option maxRecDepth 100000
set_option maxHeartbeats 4000000
namespace L2.K03
open PySem PySem.Spec PyProof.Rows L2.EV
/-- all that was there stands as it stood, but p -/
def Old (p : Addr) (H H' : Hp) : Prop := ∀ b o, b ≠ p → H b = some o → H' b = some o
theorem Old.refl (p : Addr) (H : Hp) : Old p H H := fun _ _ _ e => e
theorem Old.trans {p : Addr} {H H1 H2 : Hp} (a : Old p H H1) (b : Old p H1 H2) : Old p H H2 := fun c o n e => b c o n (a c o n e)
theorem Old.of_but {p : Addr} {H H' : Hp} (b : But p H H') : Old p H H' := fun c o n e => (b c n).trans e
theorem Old.of_same {p : Addr} {H H' : Hp} (b : Same H H') : Old p H H' := fun c o _ e => b c o e
theorem Old.free {p q : Addr} {H H' : Hp} {o : HO} (b : Old p H H') (hp : H' p = some o) (h : H' q = none) : H q = none := by
  cases e : H q with
  | none => rfl
  | some u =>
    have ne : q ≠ p := fun z => by rw [z, hp] at h; cases h
    rw [b q u ne e] at h
    cases h
theorem PurseAt.upd_ne {H : Hp} {p q : Addr} {n : Nat} {o : HO} (h : PurseAt H p n) (ne : p ≠ q) : PurseAt (upd H q o) p n := h.but but_upd ne
/-! ### the first sign of abc that is not among few -/
theorem abc_signs : (signs abc).length = 26 := by decide +kernel
theorem abc_nodup : (signs abc).Nodup := by decide +kernel
theorem abc_word : ∀ y ∈ signs abc, y.length = 1 ∧ ∀ c ∈ y.cps.toList, 97 ≤ c ∧ c ≤ 122 := by decide +kernel
def fresh (ws : List Str) : List Str := (signs abc).filter fun y => !ws.any fun z => z == y
theorem nodup_le : ∀ (l m : List Str), l.Nodup → (∀ y ∈ l, y ∈ m) → l.length ≤ m.length
  | [], _, _, _ => Nat.zero_le _
  | x :: l, m, h, hs => by
    obtain ⟨h1, h2⟩ := List.nodup_cons.mp h
    have hm := hs x List.mem_cons_self
    have := nodup_le l (m.erase x) h2 fun y hy => (List.mem_erase_of_ne (fun e => h1 (by rw [← e]; exact hy))).mpr (hs y (List.mem_cons_of_mem _ hy))
    rw [List.length_erase_of_mem hm] at this
    have := List.length_pos_of_mem hm
    rw [List.length_cons]
    omega
theorem fresh_some {ws : List Str} (h : ws.length < 26) : ∃ y r, fresh ws = y :: r ∧ Word y ∧ y ∉ ws := by
  have ne : fresh ws ≠ [] := fun e => by
    have all : ∀ y ∈ signs abc, y ∈ ws := fun y hy => by
      have := List.filter_eq_nil_iff.mp e y hy
      simpa using this
    have := nodup_le _ _ abc_nodup all
    rw [abc_signs] at this
    omega
  cases e : fresh ws with
  | nil => exact absurd e ne
  | cons y r =>
    have hy : y ∈ fresh ws := by rw [e]; exact List.mem_cons_self
    obtain ⟨h1, h2⟩ := List.mem_filter.mp hy
    obtain ⟨l1, l2⟩ := abc_word y h1
    exact ⟨y, r, rfl, ⟨by omega, l2⟩, fun hm => by simp at h2; exact h2 y hm rfl⟩
/-! ### a word with one sign exchanged -/
theorem word_cut {b : Str} {s : Nat} {c : Nat} (hb : Word b) (hs : s < b.length) (hc : 97 ≤ c ∧ c ≤ 122) : Word (cutS b none (some (s : Int)) ++ (⟨#[c]⟩ : Str) ++ cutS b (some ((s : Int) + 1)) none) := by
  have hl : b.cps.toList.length = b.length := by rw [Array.length_toList]; rfl
  have e1 : (cutS b none (some (s : Int))).cps.toList = b.cps.toList.take s := by
    unfold cutS
    rw [HT.sIx_none, HT.sIx_nat, List.drop_zero, Nat.sub_zero, Nat.min_eq_left (by omega)]
  have e2 : (cutS b (some ((s : Int) + 1)) none).cps.toList = b.cps.toList.drop (s + 1) := by
    unfold cutS
    rw [HT.sIx_none, show ((s : Int) + 1) = ((s + 1 : Nat) : Int) by omega, HT.sIx_nat, Nat.min_eq_left (by omega)]
    exact List.take_of_length_le (by rw [List.length_drop]; omega)
  have e3 : (cutS b none (some (s : Int)) ++ (⟨#[c]⟩ : Str) ++ cutS b (some ((s : Int) + 1)) none).cps.toList = b.cps.toList.take s ++ [c] ++ b.cps.toList.drop (s + 1) := by
    rw [← e1, ← e2]
    show ((_ ++ (#[c] : Array Nat)) ++ _ : Array Nat).toList = _
    rw [Array.toList_append, Array.toList_append]
  refine ⟨?_, fun x hx => ?_⟩
  · have : (cutS b none (some (s : Int)) ++ (⟨#[c]⟩ : Str) ++ cutS b (some ((s : Int) + 1)) none).length = b.length := by
      show Array.size _ = _
      rw [← Array.length_toList, e3, List.length_append, List.length_append, List.length_take, List.length_drop, hl]
      show min s b.length + 1 + _ = _
      omega
    rw [this]
    exact hb.1
  · rw [e3] at hx
    rcases List.mem_append.mp hx with hx | hx
    · rcases List.mem_append.mp hx with hx | hx
      · exact hb.2 x (List.mem_of_mem_take hx)
      · rw [List.mem_singleton.mp hx]; exact hc
    · exact hb.2 x (List.mem_of_mem_drop hx)
end L2.K03
set_option Elab.async false
set_option linter.all false
set_option maxRecDepth 100000
set_option maxHeartbeats 4000000
namespace L2.K03
open PySem PySem.Spec PyProof.Rows L2.EV
abbrev sWords : Stmt := top 41
abbrev nWords : List Str := ["_law_purse_here", "_law_many", "_law_base", "_law_near", "_law_spot", "_law_found", "_law_turn", "_law_word_here", "_law_letter"]
theorem cut_len (b : Str) (lo hi : Option Int) : (cutS b lo hi).length ≤ b.length := by
  have hl : b.cps.toList.length = b.length := by rw [Array.length_toList]; rfl
  show Array.size _ ≤ _
  rw [← Array.length_toList]
  unfold cutS
  rw [List.length_take, List.length_drop]
  omega
theorem inV_str (x : Str) (ws : List Str) : inV (.str x) (ws.map V.str) = ws.any fun z => z == x := by
  unfold inV
  rw [List.any_map]
  rfl
theorem flat_strs (ws : List Str) : (ws.map V.str).all flatV = true := by
  rw [List.all_map]
  exact List.all_eq_true.mpr fun _ _ => rfl
theorem scWords : FnScope nWords ["_law_purse_here", "_law_many"] (defScope sWords) := ⟨rfl, rfl, rfl, by decide +kernel, rfl, by decide +kernel, by decide +kernel⟩
def spWords : Sp := fun vs H Q _ => ∃ (p : Addr) (m n : Nat), vs = [.ref p, .int (m : Int)] ∧ m ≤ 8 ∧ PurseAt H p n ∧ n < 2 ^ 39 ∧
  ∀ (l : Addr) (ws : List Str) (H' : Hp), ws.length = m → (∀ w ∈ ws, Word w) → ws.Nodup → H' l = some (.lst (ws.map V.str)) → l ≠ p → PurseAt H' p (n + 110) → Old p H H' → H l = none → Q (.ref l) H'
section
variable {P : Program} {w : World} {K : PySem.W.Frag} {mg : Str → Option Value} {base : Heap} {f fD fW : Addr} {fd fdD fdW : FuncData}
theorem ok_words (F : FnP K "_law_words" sWords f fd) (GD : FnOk P w K mg base CX0 2 fD fdD ["_law_purse_here", "_law_many"] spDraw) (bD : Binds K fdD ["_law_purse_here", "_law_many"] []) (kD : PySem.W.keepIn K (.ref fD) = true)
    (gD : mg "_law_draw" = some (.ref fD)) (GW : FnOk P w K mg base CX0 3 fW fdW ["_law_purse_here"] spWord) (bW : Binds K fdW ["_law_purse_here"] []) (kW : PySem.W.keepIn K (.ref fW) = true) (gW : mg "_law_word" = some (.ref fW))
    (mR : mg "range" = none) (mL : mg "len" = none) (mLi : mg "list" = none) : FnOk P w K mg base CX0 4 f fd ["_law_purse_here", "_law_many"] spWords := by
  refine F.ok scWords (fun vs H Q E h => ?_) (fun cdv A outer s H vs Q E hr h => ?_)
  · obtain ⟨p, m, n, rfl, _⟩ := h
    rfl
  · obtain ⟨p, m, n, rfl, hm, hp, hn, k⟩ := h
    have hr2 := hr.mono (show 2 ≤ 3 by decide)
    refine ⟨_, PSs.nox (pss_cons (ps_par (i := 2) (j := 3) rfl scWords.nd rfl rfl (by decide) rfl rfl (pa_cons (pe_call GW hr (by rfl) gW kW bW .nil pass0 (pa_cons (pv 0) pa_nil))
          (pa_cons (pe_cmpR op_eq (pe_call GD hr2 (by rfl) gD kD bD .nil pass0 (pa_cons (pv 0) (pa_cons pe_int pa_nil))) pe_int (nomark _)) pa_nil)) (by rfl))
        (pss_cons (ps_asg (pe_tup (pa_cons (pe_call GD hr2 (by rfl) gD kD bD .nil pass0 (pa_cons (pv 0) (pa_cons (pe_callB call_len_str (by rfl) mL PySem.boot_len (pa_cons (pv 2) pa_nil)) pa_nil)))
          (pa_cons (pe_lst pa_nil) pa_nil))) (pg_tup rfl (pgs_cons (pg_name (i := 4) scWords.nd rfl (Or.inl rfl)) (pgs_cons (pg_name (i := 5) scWords.nd rfl (by first | exact Or.inl rfl | exact Or.inr rfl)) pgs_nil))))
        (pss_cons (ps_for PassesOwn.never rfl (pi_range1 (by rfl) mR (pa_cons (pv 1) pa_nil)) (pg_name (i := 6) scWords.nd rfl (Or.inl rfl))
          (pss_cons (ps_set (i := 7) scWords.nd rfl (Or.inl rfl) (pe_op op_add_str (pe_op op_add_str (pe_slice sl_str (pv 2) po_none (po_some (pv 4))) (pe_ix ix_str pe_str (pe_call GD hr2 (by rfl) gD kD bD .nil pass0 (pa_cons (pv 0) (pa_cons pe_int pa_nil))) (fun _ _ => rfl)))
              (pe_slice sl_str (pv 2) (po_some (pe_op op_add (pv 4) pe_int)) po_none)))
          (pss_cons (ps_if (pt_not (pt_val (pv 3))) (pss_one (ps_set (i := 7) scWords.nd rfl (Or.inl rfl) (pe_call GW hr (by rfl) gW kW bW .nil pass0 (pa_cons (pv 0) pa_nil)))) pss_nil)
          (pss_cons (ps_if (pt_cmpR op_in_seq (pv 7) (pv 5) (by rfl)) (pss_one (ps_set (i := 7) scWords.nd rfl (Or.inl rfl) (pe_ix ix_list
              (pe_lc (own := [("_law_letter", 8)]) (g := gName 8) (tt := tTest (tOp (rIn K true) (tVar 8) (tVar 5))) (by rfl) scWords.nd (pi_list (pe_callTy (call_list_strV rfl) (by rfl) mLi (by decide +kernel) (pa_cons pe_str pa_nil)))
                (blkOk_by (own := [("_law_letter", 8)]) (N := nWords) (sc := defScope sWords) (by decide +kernel)) (fun _ _ _ _ _ => pg_name (i := 8) scWords.nd rfl (Or.inl rfl))
                (fun _ _ _ _ _ => pts_one (pt_cmpR op_notIn_seq (pv 8) (pv 5) (by rfl))) (fun _ _ _ _ _ => pv 8)) pe_int (fun _ _ => rfl)))) pss_nil)
          (pss_one (ps_expr (pe_bm PySem.F.plainAttrs_list PySem.F.slot_list_append PySem.F.type_list_append mt_append (pv 5) (pa_cons (pv 7) pa_nil))))))))
        (pss_one (ps_ret (pv 5)))))), ?_⟩
    refine ⟨_, rfl, p, n, rfl, hp, by omega, fun b H1 hb p1 o1 => ?_⟩
    refine ⟨_, rfl, p, 3, n + 10, rfl, ⟨by decide, by decide⟩, p1, by omega, fun r H2 r0 r1 p2 b2 => ?_⟩
    refine ⟨rfl, _, _, rfl, ?_⟩
    generalize decide (V.int r = V.int 0) = near
    have hbl : 1 ≤ b.length ∧ b.length ≤ 8 := hb.1
    refine ⟨_, rfl, _, rfl, b, rfl, Nat.le_of_lt (small1000 (by omega)), p, (b.length : Int), n + 11, rfl, ⟨by omega, by omega⟩, p2, by omega, fun sp H3 s0 s1 p3 b3 => ?_⟩
    refine ⟨Nat.zero_le _, fun fo hfo => ?_⟩
    have o3 : Old p H H3 := (Old.trans o1 (.of_but b2)).trans (.of_but b3)
    have pe : ∃ o, H3 p = some o := p3.some
    obtain ⟨o3p, ho3p⟩ := pe
    have nfo : p ≠ fo := ne_of_none ho3p hfo
    have hfo0 : H fo = none := o3.free ho3p hfo
    refine ⟨by show 2 ≤ sizeLine; decide, fun tp htp => ?_⟩
    have sT : Same H3 (upd (upd H3 fo (.lst [])) tp (.tup [.int sp, .ref fo])) := (same_upd hfo).trans (same_upd htp)
    have gF : (upd (upd H3 fo (.lst [])) tp (.tup [.int sp, .ref fo])) fo = some (.lst []) := (same_upd htp) _ _ upd_same
    refine ⟨tp, _, rfl, SqT.of upd_same, rfl, _, _, rfl, _, _, rfl, rfl, ?_⟩
    generalize upd (upd H3 fo (.lst [])) tp (.tup [.int sp, .ref fo]) = H4 at sT gF
    have p4 := p3.same sT
    have o4 : Old p H H4 := o3.trans (.of_same sT)
    obtain ⟨q, rfl⟩ := Int.eq_ofNat_of_zero_le s0
    have hq : q < b.length := by omega
    refine ⟨_, rfl, (m : Int), rfl, by omega, by omega, ?_⟩
    refine for_range (fun i σ H' => ∃ (v6 v7 : Option V) (ws : List Str), σ = [some (.ref p), some (.int (m : Int)), some (.str b), some (.bl near), some (.int (q : Int)), some (.ref fo), v6, v7, none] ∧
      ws.length = i ∧ (∀ w ∈ ws, Word w) ∧ ws.Nodup ∧ H' fo = some (.lst (ws.map V.str)) ∧ PurseAt H' p (n + 12 + 11 * i) ∧ Old p H H') ⟨none, none, [], rfl, rfl, fun _ z => absurd z List.not_mem_nil, List.nodup_nil, gF, p4, o4⟩ ?_ ?_
    · rintro i σ H5 hi ⟨v6, v7, ws, rfl, lw, ww, nd, g5, p5, o5⟩
      have hi' : i < 8 := by omega
      -- what stands behind the choice of the word
      have last : ∀ (D : Ends) (x : Str) (v : Option V) (H6 : Hp), Word x → x ∉ ws → H6 fo = some (.lst (ws.map V.str)) → PurseAt H6 p (n + 12 + 11 * i + 11) → Old p H H6 →
          (∀ H7, H7 fo = some (.lst ((ws ++ [x]).map V.str)) → PurseAt H7 p (n + 12 + 11 * (i + 1)) → Old p H H7 → D.nx [some (.ref p), some (.int (m : Int)), some (.str b), some (.bl near), some (.int (q : Int)), some (.ref fo), v, some (.str x), none] H7) →
          (tDrop (tBM K "list" rAppend (tVar 5) (tCons (tVar 7) tNil))) D [some (.ref p), some (.int (m : Int)), some (.str b), some (.bl near), some (.int (q : Int)), some (.ref fo), v, some (.str x), none] H6 := by
        intro D x v H6 hx hn6 g6 p6 o6 kk
        refine ⟨_, rfl, .inl ⟨rfl, _, SqL.of g6⟩, _, rfl, fo, _, _, rfl, rfl, g6, ?_, ?_⟩
        · rw [List.length_map, lw]
          exact small1000 (by omega)
        · refine kk _ ?_ ((p6.upd_ne nfo).up (by omega)) fun c o nc e => ?_
          · rw [upd_same, List.map_append]
            rfl
          · rw [upd_ne (ne_of_none e hfo0)]
            exact o6 c o nc e
      -- a word that stands already is exchanged
      have swap : ∀ (D : Ends) (x : Str) (v : Option V) (H6 : Hp), Word x → H6 fo = some (.lst (ws.map V.str)) → PurseAt H6 p (n + 12 + 11 * i + 11) → Old p H H6 →
          (∀ (y : Str) H7, Word y → y ∉ ws → H7 fo = some (.lst ((ws ++ [y]).map V.str)) → PurseAt H7 p (n + 12 + 11 * (i + 1)) → Old p H H7 → D.nx [some (.ref p), some (.int (m : Int)), some (.str b), some (.bl near), some (.int (q : Int)), some (.ref fo), v, some (.str y), none] H7) →
          (tSeq (tIfS (tTest (tOp (rIn K false) (tVar 7) (tVar 5))) (tAsg (tOp (rIxL K) (tLc (iList K (tCB (fun xs H Q => ∃ z, xs = [.str z] ∧ z.cps.size ≤ sizeLine ∧ ∀ l, H l = none → Q (.ref l) (upd H l (.lst ((signs z).map V.str)))) (tCons (tC (.str abc)) tNil)))
            (gName 8) (tTest (tOp (rIn K true) (tVar 8) (tVar 5))) (tVar 8) [8]) (tC (.int 0))) (gName 7)) tNext) (tDrop (tBM K "list" rAppend (tVar 5) (tCons (tVar 7) tNil))))
            D [some (.ref p), some (.int (m : Int)), some (.str b), some (.bl near), some (.int (q : Int)), some (.ref fo), v, some (.str x), none] H6 := by
        intro D x v H6 hx g6 p6 o6 kk
        refine ⟨_, rfl, _, rfl, fo, ws.map V.str, rfl, .inl (SqL.of g6), rfl, flat_strs ws, _, rfl, ?_⟩
        rw [if_neg (by decide), inV_str]
        refine ite2 (fun hin => ?_) (fun hout => ?_)
        · refine ⟨abc, rfl, by decide +kernel, fun la hla => ⟨la, rfl, ⟨_, SqL.of upd_same⟩, fun D2 hD2 => ?_⟩⟩
          have s7 := same_upd (o := .lst ((signs abc).map V.str)) hla
          have g7 : upd H6 la (.lst ((signs abc).map V.str)) la = some (.lst ((signs abc).map V.str)) := upd_same
          generalize upd H6 la (.lst ((signs abc).map V.str)) = H7 at s7 g7 hD2
          refine lc_list (K := K) (a := la) (xs := (signs abc).map V.str) (fun j H' => Same H7 H' ∧ H' D2 = some (.lst ((((signs abc).take j).filter fun y => !ws.any fun z => z == y).map V.str))) ⟨same_upd hD2, upd_same⟩ (fun j H' _ ⟨sA, _⟩ => SqL.of (sA _ _ g7)) ?_ ?_
          · rintro j y0 H' hj ⟨sA, gA⟩
            have g5' := sA _ _ (s7 _ _ g6)
            rw [List.getElem?_map] at hj
            cases ej : (signs abc)[j]? with
            | none => rw [ej] at hj; cases hj
            | some y =>
              rw [ej] at hj
              obtain rfl : V.str y = y0 := Option.some.inj hj
              have et : (signs abc).take (j + 1) = (signs abc).take j ++ [y] := by rw [List.take_succ, ej]; rfl
              refine ⟨rfl, _, rfl, _, rfl, fo, ws.map V.str, rfl, .inl (SqL.of g5'), rfl, flat_strs ws, _, rfl, ?_⟩
              rw [if_pos rfl, inV_str]
              refine ite2 (fun ht => ?_) (fun hf => ?_)
              · refine ⟨_, rfl, _, gA, ?_, fun c o e => ?_, ?_⟩
                · rw [List.length_map]
                  refine small1000 (Nat.le_trans (List.length_filter_le _ _) (Nat.le_trans (List.length_take_le _ _) ?_))
                  have : j < (signs abc).length := (List.getElem?_eq_some_iff.mp ej).1
                  rw [abc_signs] at this
                  omega
                · rw [upd_ne (ne_of_none e hD2)]
                  exact sA c o e
                · rw [upd_same, et, List.filter_append, List.map_append]
                  simp only [List.filter_cons, List.filter_nil, ht, if_true, List.map_cons, List.map_nil]
              · refine ⟨sA, ?_⟩
                rw [gA, et, List.filter_append]
                simp only [List.filter_cons, List.filter_nil, hf, if_false, List.append_nil, Bool.false_eq_true]
          · rintro H8 ⟨sA, gA⟩
            rw [List.length_map, List.take_length] at gA
            obtain ⟨y, r, ey, wy, ny⟩ := fresh_some (ws := ws) (by omega)
            have gB : H8 D2 = some (.lst ((y :: r).map V.str)) := by rw [gA, ← ey]; rfl
            refine ⟨D2, _, _, .str y, rfl, rfl, SqL.of gB, atI_nat (j := 0) rfl, ?_⟩
            exact last D y v H8 wy ny (sA _ _ (s7 _ _ g6)) (p6.same (s7.trans sA)) (o6.trans (.of_same (s7.trans sA))) (fun H9 a1 a2 a3 => kk y H9 wy ny a1 a2 a3)
        · have hn6 : x ∉ ws := fun hm => hout (List.any_eq_true.mpr ⟨x, hm, by simp⟩)
          exact last D x v H6 hx hn6 g6 p6 o6 (fun H9 a1 a2 a3 => kk x H9 hx hn6 a1 a2 a3)
      refine ⟨_, rfl, _, rfl, _, rfl, b, rfl, Nat.le_of_lt (small1000 (by omega)), _, rfl, p, 26, n + 12 + 11 * i, rfl, ⟨by decide, by decide⟩, p5, by omega, fun r2 H6 c0 c1 p6 b6 => ?_⟩
      obtain ⟨j, rfl⟩ := Int.eq_ofNat_of_zero_le c0
      obtain ⟨c, hc, hcb⟩ := sign_at (i := j) (by omega)
      refine ⟨abc, j, c, rfl, rfl, (by decide +kernel), atI_nat hc, ?_⟩
      have k1 := cut_len b none (some (q : Int))
      have k2 := cut_len b (some ((q : Int) + 1)) none
      have k3 : (⟨#[c]⟩ : Str).length = 1 := rfl
      refine ⟨_, _, rfl, rfl, Nat.le_of_lt (small1000 (by omega)), ?_⟩
      refine ⟨_, rfl, _, rfl, _, _, rfl, rfl, _, rfl, b, rfl, Nat.le_of_lt (small1000 (by omega)), ?_⟩
      refine ⟨_, _, rfl, rfl, Nat.le_of_lt (small1000 (by rw [len_app]; omega)), ?_⟩
      have wc := word_cut hb hq hcb
      have o6 : Old p H H6 := o5.trans (.of_but b6)
      have g6 : H6 fo = some (.lst (ws.map V.str)) := (b6 fo (Ne.symm nfo)).trans g5
      have fin : ∀ (y : Str) (H7 : Hp), Word y → y ∉ ws → H7 fo = some (.lst ((ws ++ [y]).map V.str)) → PurseAt H7 p (n + 12 + 11 * (i + 1)) → Old p H H7 →
          ∃ (v6 v7 : Option V) (ws' : List Str), [some (.ref p), some (.int (m : Int)), some (.str b), some (.bl near), some (.int (q : Int)), some (.ref fo), some (.int (0 + (i : Int))), some (.str y), none] = [some (.ref p), some (.int (m : Int)), some (.str b), some (.bl near), some (.int (q : Int)), some (.ref fo), v6, v7, none] ∧
            ws'.length = i + 1 ∧ (∀ w ∈ ws', Word w) ∧ ws'.Nodup ∧ H7 fo = some (.lst (ws'.map V.str)) ∧ PurseAt H7 p (n + 12 + 11 * (i + 1)) ∧ Old p H H7 := fun y H7 wy ny a1 a2 a3 =>
        ⟨_, _, ws ++ [y], rfl, by simp [lw], fun z hz => by
          rcases List.mem_append.mp hz with hz | hz
          · exact ww z hz
          · rw [List.mem_singleton.mp hz]; exact wy, by
          rw [List.nodup_append]
          exact ⟨nd, by simp, fun a ha b hb e => ny (by rw [← List.mem_singleton.mp hb, ← e]; exact ha)⟩, a1, a2, a3⟩
      refine ⟨_, rfl, near, rfl, ?_⟩
      cases near with
      | true =>
        refine iteF ?_
        exact swap _ _ _ H6 wc g6 (p6.up (by omega)) o6 fin
      | false =>
        refine iteT ?_
        refine ⟨_, rfl, p, n + 12 + 11 * i + 1, rfl, p6, by omega, fun x H7 hx p7 o7 => ?_⟩
        exact swap _ x _ H7 hx (o7 fo _ (Ne.symm nfo) g6) (p7.up (by omega)) (o6.trans o7) fin
    · rintro σ H5 ⟨v6, v7, ws, rfl, lw, ww, nd, g5, p5, o5⟩
      refine ⟨_, rfl, ?_⟩
      exact k fo ws H5 lw ww nd g5 (Ne.symm nfo) (p5.up (by omega)) o5 hfo0
end
end L2.K03
set_option Elab.async false
set_option linter.all false
set_option maxRecDepth 100000
set_option maxHeartbeats 4000000
namespace L2.K03
open PySem PySem.Spec PyProof.Rows L2.EV
/-- a def of the top that keeps a promise -/
structure Got (P : Program) (w : World) (K : PySem.W.Frag) (mg : Str → Option Value) (base : Heap) (k : Nat) (x : Str) (ps : List Str) (sp : Sp) : Prop where
  ex : ∃ f fd, FnOk P w K mg base CX0 k f fd ps sp ∧ Binds K fd ps [] ∧ PySem.W.keepIn K (.ref f) = true ∧ mg x = some (.ref f)
section
variable {X : Cx} {k j : Nat} {x : Str} {ps : List Str} {sp : Sp} {p pos : Pos} {e : Expr} {es : List Expr} {t : TA}
theorem pe_got (g : Got X.prog X.w X.K X.mg X.base k x ps sp) (hr : Room j X.A) (ha : PA X (e :: es) t) (hg : Gl X x := by rfl) (hk : k ≤ j := by decide) (hdb : (x == ("__debug__" : Str)) = false := by decide)
    (he : starEach (e :: es) X.env = (false, eval e X.env) :: starEach es X.env := by rfl) (hpl : (backTo pos (starEach es X.env)).any (·.1) = false := by rfl) : PE X (.Call (.Name x p) (e :: es) [] pos) (tCall sp [] E0 t) := by
  obtain ⟨f, fd, G, b, kp, m⟩ := g.ex
  exact pe_call G (hr.mono hk) hg m kp b .nil pass0 ha hdb he hpl
end
/-! ### a list in a drawn order -/
abbrev sShuf : Stmt := top 38
abbrev nShuf : List Str := ["_law_purse_here", "_law_some_here", "_law_found", "_law_item"]
theorem scShuf : FnScope nShuf ["_law_purse_here", "_law_some_here"] (defScope sShuf) := ⟨rfl, rfl, rfl, by decide +kernel, rfl, by decide +kernel, by decide +kernel⟩
def spShuf : Sp := fun vs H Q _ => ∃ (p l : Addr) (xs : List V) (n : Nat), vs = [.ref p, .ref l] ∧ H l = some (.lst xs) ∧ l ≠ p ∧ xs.length ≤ 900 ∧ PurseAt H p n ∧ n < 2 ^ 45 ∧
  ∀ (q : Addr) (ys : List V) (H' : Hp), ys.Perm xs → H' q = some (.lst ys) → q ≠ p → PurseAt H' p (n + xs.length) → Old p H H' → H q = none → Q (.ref q) H'
theorem ins_perm (xs : List V) (i : Nat) (y : V) : (xs.take i ++ [y] ++ xs.drop i).Perm (y :: xs) := by
  have h : (xs.take i ++ [y] ++ xs.drop i).Perm ([y] ++ xs.take i ++ xs.drop i) := List.Perm.append_right _ List.perm_append_comm
  have e : [y] ++ xs.take i ++ xs.drop i = y :: xs := by simp
  rw [e] at h
  exact h
section
variable {P : Program} {w : World} {K : PySem.W.Frag} {mg : Str → Option Value} {base : Heap} {f : Addr} {fd : FuncData}
theorem ok_shuf (F : FnP K "_law_shuffled" sShuf f fd) (GD : Got P w K mg base 2 "_law_draw" ["_law_purse_here", "_law_many"] spDraw) (mL : mg "len" = none) : FnOk P w K mg base CX0 3 f fd ["_law_purse_here", "_law_some_here"] spShuf := by
  refine F.ok scShuf (fun vs H Q E h => ?_) (fun cdv A outer s H vs Q E hr h => ?_)
  · obtain ⟨p, l, xs, n, rfl, _⟩ := h
    rfl
  · obtain ⟨p, l, xs, n, rfl, hl, nlp, hx, hp, hn, k⟩ := h
    refine ⟨_, PSs.nox (pss_cons (ps_set (i := 2) scShuf.nd rfl (Or.inl rfl) (pe_lst pa_nil))
      (pss_cons (ps_for PassesOwn.never rfl (pi_list (pv 1)) (pg_name (i := 3) scShuf.nd rfl (Or.inl rfl))
        (pss_one (ps_expr (pe_bm PySem.F.plainAttrs_list PySem.F.slot_list_insert PySem.F.type_list_insert mt_insert (pv 2)
          (pa_cons (pe_got GD hr (pa_cons (pv 0) (pa_cons (pe_op op_add (pe_callB call_len_seq (by rfl) mL PySem.boot_len (pa_cons (pv 2) pa_nil)) pe_int) pa_nil))) (pa_cons (pv 3) pa_nil))))))
      (pss_one (ps_ret (pv 2))))), ?_⟩
    refine ⟨Nat.zero_le _, fun q hq => ?_⟩
    obtain ⟨op, hop⟩ := hp.some
    have npq : p ≠ q := ne_of_none hop hq
    have nlq : l ≠ q := ne_of_none hl hq
    refine ⟨_, rfl, l, rfl, ⟨_, SqL.of ((upd_ne nlq).trans hl)⟩, ?_⟩
    refine for_list (K := K) (a := l) (xs := xs) (fun i σ H' => ∃ (v3 : Option V) (ys : List V), σ = [some (.ref p), some (.ref l), some (.ref q), v3] ∧ ys.Perm (xs.take i) ∧ H' q = some (.lst ys) ∧ PurseAt H' p (n + i) ∧ Old p H H')
      ⟨none, [], rfl, .nil, upd_same, hp.upd_ne npq, fun c o nc e => by rw [upd_ne (ne_of_none e hq)]; exact e⟩ (fun i σ H' _ ⟨_, _, _, _, _, _, o⟩ => SqL.of (o l _ nlp hl)) ?_ ?_
    · rintro i x σ H' hi ⟨v3, ys, rfl, pm, g, p1, o1⟩
      have hlt : i < xs.length := (List.getElem?_eq_some_iff.mp hi).1
      have yl : ys.length = i := by rw [pm.length_eq, List.length_take, Nat.min_eq_left (Nat.le_of_lt hlt)]
      refine ⟨_, rfl, .inl ⟨rfl, _, SqL.of g⟩, _, rfl, _, rfl, q, ys, rfl, .inl (SqL.of g), _, _, rfl, rfl, p, _, n + i, rfl, ⟨by omega, by omega⟩, p1, by omega, fun r H2 r0 r1 p2 b2 => ?_⟩
      have g2 : H2 q = some (.lst ys) := (b2 q (Ne.symm npq)).trans g
      refine ⟨_, rfl, q, ys, r, x, rfl, rfl, g2, small1000 (by omega), r0, by omega, ?_⟩
      refine ⟨_, _, rfl, ?_, upd_same, p2.upd_ne npq, fun c o nc e => ?_⟩
      · rw [List.take_succ, hi]
        exact (ins_perm ys r.toNat x).trans ((pm.cons x).trans (List.perm_append_comm (l₁ := [x])))
      · rw [upd_ne (ne_of_none e hq)]
        exact (b2 c nc).trans (o1 c o nc e)
    · rintro σ H' ⟨v3, ys, rfl, pm, g, p1, o1⟩
      rw [List.take_length] at pm
      exact ⟨_, rfl, k q ys H' pm g (Ne.symm npq) p1 o1 hq⟩
end
end L2.K03
set_option Elab.async false
set_option linter.all false
set_option maxRecDepth 100000
set_option maxHeartbeats 4000000
namespace L2.K03
open PySem PySem.Spec PyProof.Rows L2.EV
/-! ### words as data -/
theorem Word.ok {x : Str} (h : Word x) : PyData.strOk x = true := by
  unfold PyData.strOk
  refine Array.all_eq_true_iff_forall_mem.mpr fun c hc => ?_
  have := h.2 c (by simpa using hc)
  exact decide_eq_true (by omega)
abbrev dWs (ws : List Str) : PyData := .list (ws.map PyData.str)
theorem lay_words : ∀ ws : List Str, (∀ w ∈ ws, Word w) → PyData.canLayAll0 (ws.map PyData.str) = true
  | [], _ => rfl
  | w :: ws, h => by
    rw [List.map_cons]
    show (PyData.strOk w && PyData.canLayAll0 (ws.map PyData.str)) = true
    rw [(h w List.mem_cons_self).ok, lay_words ws fun y hy => h y (List.mem_cons_of_mem _ hy)]
    rfl
theorem depth_words : ∀ ws : List Str, PyData.depthAll (ws.map PyData.str) = 0
  | [] => rfl
  | w :: ws => by
    rw [List.map_cons]
    show max 0 (PyData.depthAll (ws.map PyData.str)) = 0
    rw [depth_words ws]
    rfl
theorem shaped_words {ws : List Str} (h : ∀ w ∈ ws, Word w) : SeqAt.shaped (dWs ws) = true := by
  unfold SeqAt.shaped
  have e : PyData.depth (dWs ws) = 1 := by
    show PyData.depthAll (ws.map PyData.str) + 1 = 1
    rw [depth_words]
  rw [e]
  show (PyData.canLayAll0 (ws.map PyData.str) && _) = true
  rw [lay_words ws h]
  rfl
theorem dp_words {K : PySem.W.Frag} {H : Hp} : ∀ ws : List Str, DpAll K H (ws.map V.str) (ws.map PyData.str)
  | [] => .nil
  | w :: ws => .cons (.str w) (dp_words ws)
/-! ### effects -/
inductive Ef where
  | coins (c : Nat)
  | fill (a b : Nat)
def Ef.ok : Ef → Prop
  | .coins c => c ≤ 3
  | .fill a b => a ≤ 3 ∧ b ≤ 3
def Ef.vs : Ef → List V
  | .coins c => [.str "coins", .int (c : Int)]
  | .fill a b => [.str "fill", .int (a : Int), .int (b : Int)]
def EfAt (H : Hp) (t : Addr) (e : Ef) : Prop := H t = some (.tup e.vs)
abbrev sEff : Stmt := top 42
theorem scEff : FnScope ["_law_purse_here", "_law_way"] ["_law_purse_here"] (defScope sEff) := ⟨rfl, rfl, rfl, by decide +kernel, rfl, by decide +kernel, by decide +kernel⟩
def spEff : Sp := fun vs H Q _ => ∃ (p : Addr) (n : Nat), vs = [.ref p] ∧ PurseAt H p n ∧ n < 2 ^ 45 ∧
  ∀ (t : Addr) (e : Ef) (H' : Hp), e.ok → EfAt H' t e → t ≠ p → PurseAt H' p (n + 3) → Old p H H' → H t = none → Q (.ref t) H'
section
variable {P : Program} {w : World} {K : PySem.W.Frag} {mg : Str → Option Value} {base : Heap} {f : Addr} {fd : FuncData}
theorem ok_eff (F : FnP K "_law_effect" sEff f fd) (GD : Got P w K mg base 2 "_law_draw" ["_law_purse_here", "_law_many"] spDraw) (mI : mg "int" = none) : FnOk P w K mg base CX0 3 f fd ["_law_purse_here"] spEff := by
  refine F.ok scEff (fun vs H Q E h => ?_) (fun cdv A outer s H vs Q E hr h => ?_)
  · obtain ⟨p, n, rfl, _⟩ := h
    rfl
  · obtain ⟨p, n, rfl, hp, hn, k⟩ := h
    refine ⟨_, PSs.nox (pss_cons (ps_set (i := 1) scEff.nd rfl (Or.inl rfl) (pe_got GD hr (pa_cons (pv 0) (pa_cons pe_int pa_nil))))
      (pss_cons (ps_if (pt_cmpR op_lt (pv 1) pe_int (nomark _)) (pss_one (ps_ret (pe_tup (pa_cons pe_str (pa_cons (pe_callTy call_int1 (by rfl) mI (by decide +kernel) (pa_cons (pe_cmpR op_gt (pv 1) pe_int (nomark _)) pa_nil)) pa_nil))))) pss_nil)
      (pss_cons (ps_if (pt_cmpR op_eq (pv 1) pe_int (nomark _)) (pss_one (ps_ret (pe_tup (pa_cons pe_str (pa_cons (pe_got GD hr (pa_cons (pv 0) (pa_cons pe_int pa_nil))) pa_nil))))) pss_nil)
      (pss_one (ps_ret (pe_ifExp (pt_cmpR op_eq (pv 1) pe_int (nomark _))
        (pe_tup (pa_cons pe_str (pa_cons (pe_got GD hr (pa_cons (pv 0) (pa_cons pe_int pa_nil))) (pa_cons (pe_got GD hr (pa_cons (pv 0) (pa_cons pe_int pa_nil))) pa_nil))))
        (pe_tup (pa_cons pe_str (pa_cons pe_int (pa_cons pe_int pa_nil)))))))))), ?_⟩
    refine ⟨_, rfl, p, 6, n, rfl, ⟨by decide, by decide⟩, hp, by omega, fun r H1 r0 r1 p1 b1 => ?_⟩
    obtain ⟨q, rfl⟩ := Int.eq_ofNat_of_zero_le r0
    have o1 : Old p H H1 := .of_but b1
    have fin : ∀ (e : Ef) (H2 : Hp), e.ok → PurseAt H2 p (n + 3) → Old p H H2 → e.vs.length ≤ sizeLine ∧ ∀ t, H2 t = none → Q (.ref t) (upd H2 t (.tup e.vs)) := fun e H2 he p2 o2 => by
      refine ⟨by cases e <;> exact Nat.le_of_lt (small1000 (by simp [Ef.vs])), fun t ht => ?_⟩
      obtain ⟨op, hop⟩ := p2.some
      have ne : p ≠ t := ne_of_none hop ht
      exact k t e _ he upd_same (Ne.symm ne) (p2.upd_ne ne) (o2.trans (.of_same (same_upd ht))) (o2.free hop ht)
    refine ⟨_, rfl, _, _, rfl, rfl, _, rfl, ?_⟩
    refine ite2 (fun _ => ?_) (fun _ => ?_)
    · refine ⟨_, rfl, _, _, rfl, rfl, .inr ⟨_, rfl, ?_⟩⟩
      by_cases hq : (0 : Int) < (q : Int)
      · rw [decide_eq_true hq]
        exact fin (.coins 1) H1 (by show 1 ≤ 3; decide) (p1.up (by omega)) o1
      · rw [decide_eq_false hq]
        exact fin (.coins 0) H1 (by show 0 ≤ 3; decide) (p1.up (by omega)) o1
    · refine ⟨_, rfl, rfl, _, rfl, ?_⟩
      refine ite2 (fun _ => ?_) (fun _ => ?_)
      · refine ⟨_, rfl, p, 4, n + 1, rfl, ⟨by decide, by decide⟩, p1, by omega, fun r2 H2 c0 c1 p2 b2 => ?_⟩
        obtain ⟨c, rfl⟩ := Int.eq_ofNat_of_zero_le c0
        exact fin (.coins c) H2 (by show c ≤ 3; omega) (p2.up (by omega)) (o1.trans (.of_but b2))
      · refine ⟨_, rfl, rfl, _, rfl, ?_⟩
        refine ite2 (fun _ => ?_) (fun _ => ?_)
        · refine ⟨_, rfl, p, 4, n + 1, rfl, ⟨by decide, by decide⟩, p1, by omega, fun r2 H2 c0 c1 p2 b2 => ?_⟩
          obtain ⟨c, rfl⟩ := Int.eq_ofNat_of_zero_le c0
          refine ⟨_, rfl, p, 4, n + 2, rfl, ⟨by decide, by decide⟩, p2, by omega, fun r3 H3 d0 d1 p3 b3 => ?_⟩
          obtain ⟨d, rfl⟩ := Int.eq_ofNat_of_zero_le d0
          exact fin (.fill c d) H3 (by show c ≤ 3 ∧ d ≤ 3; omega) p3 ((o1.trans (.of_but b2)).trans (.of_but b3))
        · exact fin (.fill 0 0) H1 (by show 0 ≤ 3 ∧ 0 ≤ 3; decide) (p1.up (by omega)) o1
end
/-! ### manners -/
structure Mn where
  r : Str
  j : Str
  s : Str
  e : Ef
def ManAt (H : Hp) (v : V) (m : Mn) : Prop := ∃ a t, v = .ref a ∧ H a = some (.tup [.str m.r, .str m.j, .str m.s, .ref t]) ∧ EfAt H t m.e
theorem ManAt.old {p : Addr} {H H' : Hp} {v : V} {m : Mn} {n : Nat} (h : ManAt H v m) (hp : PurseAt H p n) (o : Old p H H') : ManAt H' v m := by
  obtain ⟨a, t, rfl, h1, h2⟩ := h
  obtain ⟨x, y, z, u, hp, _⟩ := hp
  exact ⟨a, t, rfl, o _ _ (ne_of h1 hp fun e => by cases e) h1, o _ _ (ne_of h2 hp fun e => by cases e) h2⟩
theorem ManAt.same {H H' : Hp} {v : V} {m : Mn} (h : ManAt H v m) (o : Same H H') : ManAt H' v m := by
  obtain ⟨a, t, rfl, h1, h2⟩ := h
  exact ⟨a, t, rfl, o _ _ h1, o _ _ h2⟩
structure Mn.of (m : Mn) (rs js : List Str) : Prop where
  r : m.r ∈ rs
  j : m.j ∈ js
  s : m.s ∈ rs
  e : m.e.ok
theorem item_str {ws : List Str} {i : Nat} {x : V} (h : (ws.map V.str)[i]? = some x) : ∃ y, y ∈ ws ∧ x = .str y := by
  rw [List.getElem?_map] at h
  cases e : ws[i]? with
  | none => rw [e] at h; cases h
  | some y => rw [e] at h; exact ⟨y, List.mem_of_getElem? e, (Option.some.inj h).symm⟩
abbrev sMan : Stmt := top 43
abbrev nMan : List Str := ["_law_purse_here", "_law_rooms_here", "_law_jobs_here"]
theorem scMan : FnScope nMan nMan (defScope sMan) := ⟨rfl, rfl, rfl, by decide +kernel, rfl, by decide +kernel, by decide +kernel⟩
def spMan : Sp := fun vs H Q _ => ∃ (p l j : Addr) (rs js : List Str) (n : Nat), vs = [.ref p, .ref l, .ref j] ∧ H l = some (.lst (rs.map V.str)) ∧ l ≠ p ∧ H j = some (.lst (js.map V.str)) ∧ j ≠ p ∧ (0 < rs.length ∧ rs.length ≤ 8) ∧ (0 < js.length ∧ js.length ≤ 8) ∧ PurseAt H p n ∧ n < 2 ^ 44 ∧
  ∀ (a : Addr) (m : Mn) (H' : Hp), m.of rs js → ManAt H' (.ref a) m → PurseAt H' p (n + 6) → Old p H H' → H a = none → Q (.ref a) H'
section
variable {P : Program} {w : World} {K : PySem.W.Frag} {mg : Str → Option Value} {base : Heap} {f : Addr} {fd : FuncData}
theorem ok_man (F : FnP K "_law_manner" sMan f fd) (GO : Got P w K mg base 3 "_law_one_of" ["_law_purse_here", "_law_some_here"] spOne) (GE : Got P w K mg base 3 "_law_effect" ["_law_purse_here"] spEff) : FnOk P w K mg base CX0 4 f fd nMan spMan := by
  refine F.ok scMan (fun vs H Q E h => ?_) (fun cdv A outer s H vs Q E hr h => ?_)
  · obtain ⟨p, l, j, rs, js, n, rfl, _⟩ := h
    rfl
  · obtain ⟨p, l, j, rs, js, n, rfl, hl, nl, hj, nj, hrs, hjs, hp, hn, k⟩ := h
    refine ⟨_, PSs.nox (pss_one (ps_ret (pe_tup (pa_cons (pe_got GO hr (pa_cons (pv 0) (pa_cons (pv 1) pa_nil))) (pa_cons (pe_got GO hr (pa_cons (pv 0) (pa_cons (pv 2) pa_nil)))
      (pa_cons (pe_got GO hr (pa_cons (pv 0) (pa_cons (pv 1) pa_nil))) (pa_cons (pe_got GE hr (pa_cons (pv 0) pa_nil)) pa_nil))))))), ?_⟩
    have big : ∀ {ws : List Str}, (0 < ws.length ∧ ws.length ≤ 8) → 0 < (ws.map V.str).length ∧ (ws.map V.str).length < 2 ^ 200 := fun h => by
      rw [List.length_map]
      exact ⟨h.1, Nat.lt_of_le_of_lt h.2 (by decide)⟩
    refine ⟨_, rfl, _, rfl, p, l, rs.map V.str, n, rfl, hl, nl, big hrs, hp, by omega, fun i1 x1 H1 h1 p1 b1 => ?_⟩
    obtain ⟨y1, m1, rfl⟩ := item_str h1
    have o1 : Old p H H1 := .of_but b1
    refine ⟨_, rfl, _, rfl, p, j, js.map V.str, n + 1, rfl, o1 _ _ nj hj, nj, big hjs, p1, by omega, fun i2 x2 H2 h2 p2 b2 => ?_⟩
    obtain ⟨y2, m2, rfl⟩ := item_str h2
    have o2 : Old p H H2 := o1.trans (.of_but b2)
    refine ⟨_, rfl, _, rfl, p, l, rs.map V.str, n + 2, rfl, o2 _ _ nl hl, nl, big hrs, p2, by omega, fun i3 x3 H3 h3 p3 b3 => ?_⟩
    obtain ⟨y3, m3, rfl⟩ := item_str h3
    have o3 : Old p H H3 := o2.trans (.of_but b3)
    refine ⟨_, rfl, p, n + 3, rfl, p3, by omega, fun t e H4 he ht nt p4 o4 ft => ?_⟩
    refine ⟨by show 4 ≤ sizeLine; decide, fun a ha => ?_⟩
    obtain ⟨op, hop⟩ := p4.some
    have nap : p ≠ a := ne_of_none hop ha
    have oA : Old p H (upd H4 a (.tup [.str y1, .str y2, .str y3, .ref t])) := (o3.trans o4).trans (.of_same (same_upd ha))
    exact k a ⟨y1, y2, y3, e⟩ _ ⟨m1, m2, m3, he⟩ ⟨a, t, rfl, upd_same, (same_upd ha) _ _ ht⟩ (p4.upd_ne nap) oA ((o3.trans o4).free hop ha)
end
/-! ### some of the rooms -/
abbrev sSome : Stmt := top 44
abbrev nSome : List Str := ["_law_purse_here", "_law_rooms_here", "_law_found", "_law_room"]
theorem scSome : FnScope nSome ["_law_purse_here", "_law_rooms_here"] (defScope sSome) := ⟨rfl, rfl, rfl, by decide +kernel, rfl, by decide +kernel, by decide +kernel⟩
def spSome : Sp := fun vs H Q _ => ∃ (p l : Addr) (rs : List Str) (n : Nat), vs = [.ref p, .ref l] ∧ H l = some (.lst (rs.map V.str)) ∧ l ≠ p ∧ (0 < rs.length ∧ rs.length ≤ 8) ∧ rs.Nodup ∧ (∀ y ∈ rs, Word y) ∧ PurseAt H p n ∧ n < 2 ^ 44 ∧
  ∀ (q : Addr) (ys : List Str) (H' : Hp), ys.Nodup → (∀ y ∈ ys, y ∈ rs) → H' q = some (.lst (ys.map V.str)) → q ≠ p → PurseAt H' p (n + 10) → Old p H H' → H q = none → Q (.ref q) H'
section
variable {P : Program} {w : World} {K : PySem.W.Frag} {mg : Str → Option Value} {base : Heap} {f : Addr} {fd : FuncData}
theorem eqv_nil : ∀ ws : List Str, PyData.eqv (dWs ws) (.list []) = ws.isEmpty
  | [] => rfl
  | _ :: _ => rfl
theorem ok_some (F : FnP K "_law_some" sSome f fd) (GD : Got P w K mg base 2 "_law_draw" ["_law_purse_here", "_law_many"] spDraw) (GO : Got P w K mg base 3 "_law_one_of" ["_law_purse_here", "_law_some_here"] spOne) : FnOk P w K mg base CX0 4 f fd ["_law_purse_here", "_law_rooms_here"] spSome := by
  refine F.ok scSome (fun vs H Q E h => ?_) (fun cdv A outer s H vs Q E hr h => ?_)
  · obtain ⟨p, l, rs, n, rfl, _⟩ := h
    rfl
  · obtain ⟨p, l, rs, n, rfl, hl, nl, hrs, nd, ww, hp, hn, k⟩ := h
    have hu := hr.units
    refine ⟨_, PSs.nox (pss_cons (ps_setLc (i := 2) (own := [("_law_room", 3)]) (g := gName 3) (tt := tTest (tOp rEq (tCall spDraw [] E0 (tCons (tVar 0) (tCons (tC (.int 2)) tNil))) (tC (.int 0)))) (by rfl) scSome.nd rfl rfl (by rfl) (pi_list (pv 1))
        (blkOk_by (own := [("_law_room", 3)]) (N := nSome) (sc := defScope sSome) (by decide +kernel)) (fun _ _ _ _ _ => pg_name (i := 3) scSome.nd rfl (Or.inl rfl))
        (fun _ _ _ _ _ => pts_one (pt_cmpR op_eq (pe_got GD hr (pa_cons (pv 0) (pa_cons pe_int pa_nil))) pe_int (nomark _))) (fun _ _ _ _ _ => pv 3))
      (pss_cons (ps_if (PW.pt (pw_and (pt_cmpR (op_eqD hu) (pv 2) (pe_lst pa_nil) (nomark _)) (pw_and1 (pt_cmpR op_gt (pe_got GD hr (pa_cons (pv 0) (pa_cons pe_int pa_nil))) pe_int (nomark _)))))
        (pss_one (ps_set (i := 2) scSome.nd rfl (Or.inl rfl) (pe_lst (pa_cons (pe_got GO hr (pa_cons (pv 0) (pa_cons (pv 1) pa_nil))) pa_nil)))) pss_nil)
      (pss_one (ps_ret (pv 2))))), ?_⟩
    refine ⟨_, rfl, l, rfl, ⟨_, SqL.of hl⟩, fun D hD => ?_⟩
    obtain ⟨op, hop⟩ := hp.some
    have npD : p ≠ D := ne_of_none hop hD
    refine lc_list (K := K) (a := l) (xs := rs.map V.str) (fun i H' => ∃ ys : List Str, ys.Sublist (rs.take i) ∧ H' D = some (.lst (ys.map V.str)) ∧ PurseAt H' p (n + i) ∧ Old p H H')
      ⟨[], List.nil_sublist _, upd_same, hp.upd_ne npD, .of_same (same_upd hD)⟩ (fun i H' _ ⟨_, _, _, _, o⟩ => SqL.of (o l _ nl hl)) ?_ ?_
    · rintro i x H' hi ⟨ys, sb, g, p1, o1⟩
      rw [List.getElem?_map] at hi
      cases e : rs[i]? with
      | none => rw [e] at hi; cases hi
      | some y =>
        rw [e] at hi
        obtain rfl : V.str y = x := Option.some.inj hi
        have hlt : i < rs.length := (List.getElem?_eq_some_iff.mp e).1
        have et : rs.take (i + 1) = rs.take i ++ [y] := by rw [List.take_succ, e]; rfl
        refine ⟨rfl, _, rfl, p, 2, n + i, rfl, ⟨by decide, by decide⟩, p1, by omega, fun r H2 r0 r1 p2 b2 => ?_⟩
        have g2 : H2 D = some (.lst (ys.map V.str)) := (b2 D (Ne.symm npD)).trans g
        have o2 : Old p H H2 := o1.trans (.of_but b2)
        refine ⟨rfl, _, rfl, ?_⟩
        refine ite2 (fun _ => ?_) (fun _ => ?_)
        · refine ⟨_, rfl, _, g2, ?_, ys ++ [y], ?_, ?_, p2.upd_ne npD, fun c o nc ec => ?_⟩
          · rw [List.length_map]
            exact small1000 (Nat.le_trans sb.length_le (by rw [List.length_take]; omega))
          · rw [et]
            exact sb.append (List.Sublist.refl _)
          · rw [upd_same, List.map_append]
            rfl
          · rw [upd_ne (ne_of_none ec hD)]
            exact o2 c o nc ec
        · refine ⟨ys, ?_, g2, p2, o2⟩
          rw [et]
          exact sb.trans (List.sublist_append_left _ _)
    · rintro H1 ⟨ys, sb, g, p1, o1⟩
      rw [List.length_map, List.take_length] at sb
      rw [List.length_map] at p1
      have ymem : ∀ y ∈ ys, y ∈ rs := fun y hy => sb.subset hy
      have ynd : ys.Nodup := sb.nodup nd
      have yw : ∀ y ∈ ys, Word y := fun y hy => ww y (ymem y hy)
      have leave : ∀ (q : Addr) (zs : List Str) (H' : Hp), zs.Nodup → (∀ y ∈ zs, y ∈ rs) → H' q = some (.lst (zs.map V.str)) → PurseAt H' p (n + 10) → Old p H H' → H q = none → Q (.ref q) H' := fun q zs H' a b c d e f => by
        obtain ⟨x1, x2, x3, x4, h5, _⟩ := d
        refine k q zs H' a b c (fun z => ?_) ⟨x1, x2, x3, x4, h5, by assumption⟩ e f
        rw [z, hop] at f
        cases f
      refine ⟨_, rfl, Nat.zero_le _, fun q0 hq0 => ?_⟩
      have s1 := same_upd (o := .lst []) hq0
      have h0 : upd H1 q0 (.lst []) q0 = some (.lst []) := upd_same
      generalize upd H1 q0 (.lst []) = H2 at s1 h0
      refine ⟨dWs ys, .list [], .lst (SqL.of (s1 _ _ g)) (dp_words ys), .lst (SqL.of h0) .nil, shaped_words yw, by decide +kernel, _, rfl, ?_⟩
      have o2 : Old p H H2 := o1.trans (.of_same s1)
      refine ite2 (fun _ => ?_) (fun _ => ?_)
      · refine ⟨_, rfl, p, 6, n + rs.length, rfl, ⟨by decide, by decide⟩, p1.same s1, by omega, fun r H3 r0 r1 p3 b3 => ?_⟩
        have o3 : Old p H H3 := o2.trans (.of_but b3)
        have g3 : H3 D = some (.lst (ys.map V.str)) := (b3 D (Ne.symm npD)).trans (s1 _ _ g)
        refine ⟨_, _, rfl, rfl, _, rfl, ?_⟩
        refine ite2 (fun _ => ?_) (fun _ => ?_)
        · refine ⟨_, rfl, _, rfl, p, l, rs.map V.str, n + rs.length + 1, rfl, o3 _ _ nl hl, nl, ⟨by rw [List.length_map]; exact hrs.1, by rw [List.length_map]; exact Nat.lt_of_le_of_lt hrs.2 (by decide)⟩, p3, by omega, fun i x H4 hx p4 b4 => ?_⟩
          obtain ⟨y, hy, rfl⟩ := item_str hx
          refine ⟨by show 1 ≤ sizeLine; decide, fun q hq => ?_⟩
          have npq : p ≠ q := ne_of_none (show _ from p4.some.choose_spec) hq
          have o4 : Old p H H4 := o3.trans (.of_but b4)
          refine ⟨_, rfl, leave q [y] _ (by simp) (fun z hz => by rw [List.mem_singleton.mp hz]; exact hy) upd_same ((p4.upd_ne npq).up (by omega)) (o4.trans (.of_same (same_upd hq))) (o4.free p4.some.choose_spec hq)⟩
        · exact ⟨_, rfl, leave D ys H3 ynd ymem g3 (p3.up (by omega)) o3 hD⟩
      · exact ⟨_, rfl, leave D ys H2 ynd ymem (s1 _ _ g) ((p1.same s1).up (by omega)) o2 hD⟩
end
end L2.K03
set_option Elab.async false
set_option linter.all false
set_option maxRecDepth 100000
set_option maxHeartbeats 4000000
namespace L2.K03
open PySem PySem.Spec PyProof.Rows L2.EV
/-! ### manners as data -/
def Ef.data : Ef → PyData
  | .coins c => .tuple [.str "coins", .int (c : Int)]
  | .fill a b => .tuple [.str "fill", .int (a : Int), .int (b : Int)]
def dMn (m : Mn) : PyData := .tuple [.str m.r, .str m.j, .str m.s, m.e.data]
theorem EfAt.dp {K : PySem.W.Frag} {H : Hp} {t : Addr} {e : Ef} (h : EfAt H t e) : Dp K H (.ref t) e.data := by
  cases e with
  | coins c => exact .tup (SqT.of h) (.cons (.str _) (.cons (.int _) .nil))
  | fill a b => exact .tup (SqT.of h) (.cons (.str _) (.cons (.int _) (.cons (.int _) .nil)))
theorem ManAt.dp {K : PySem.W.Frag} {H : Hp} {v : V} {m : Mn} (h : ManAt H v m) : Dp K H v (dMn m) := by
  obtain ⟨a, t, rfl, h1, h2⟩ := h
  exact .tup (SqT.of h1) (.cons (.str _) (.cons (.str _) (.cons (.str _) (.cons h2.dp .nil))))
theorem eqv_ef (e d : Ef) : PyData.eqv e.data d.data = true ↔ e = d := by
  have ne : ("coins" : Str) ≠ ("fill" : Str) := by decide +kernel
  cases e with
  | coins c => cases d with
    | coins c' =>
      simp [Ef.data, PyData.eqv, PyData.eqvAll]
      omega
    | fill a b => simp [Ef.data, PyData.eqv, PyData.eqvAll]
  | fill a b => cases d with
    | coins c' => simp [Ef.data, PyData.eqv, PyData.eqvAll]
    | fill a' b' =>
      simp [Ef.data, PyData.eqv, PyData.eqvAll]
      omega
theorem eqv_mn (m n : Mn) : PyData.eqv (dMn m) (dMn n) = true ↔ m = n := by
  obtain ⟨r, j, s, e⟩ := m
  obtain ⟨r', j', s', e'⟩ := n
  have h := eqv_ef e e'
  simp only [dMn, PyData.eqv, PyData.eqvAll, Bool.and_true, Bool.and_eq_true, beq_iff_eq, h, Mn.mk.injEq]
structure Mn.Ok (m : Mn) : Prop where
  r : Word m.r
  j : Word m.j
  s : Word m.s
  e : m.e.ok
theorem lay_ef (e : Ef) : PyData.canLay0 e.data = true ∧ PyData.depth e.data = 1 := by
  have c : PyData.strOk ("coins" : Str) = true := by decide +kernel
  have f : PyData.strOk ("fill" : Str) = true := by decide +kernel
  cases e with
  | coins n => exact ⟨by simp [Ef.data, PyData.canLay0, PyData.canLayAll0, c], by simp [Ef.data, PyData.depth, PyData.depthAll]⟩
  | fill a b => exact ⟨by simp [Ef.data, PyData.canLay0, PyData.canLayAll0, f], by simp [Ef.data, PyData.depth, PyData.depthAll]⟩
theorem lay_mn {m : Mn} (h : m.Ok) : PyData.canLay0 (dMn m) = true ∧ PyData.depth (dMn m) = 2 := by
  have := lay_ef m.e
  exact ⟨by simp [dMn, PyData.canLay0, PyData.canLayAll0, h.r.ok, h.j.ok, h.s.ok, this.1], by simp [dMn, PyData.depth, PyData.depthAll, this.2]⟩
theorem shaped_mn {m : Mn} (h : m.Ok) : SeqAt.shaped (dMn m) = true := by
  unfold SeqAt.shaped
  rw [(lay_mn h).1, (lay_mn h).2]
  rfl
abbrev dMs (ms : List Mn) : PyData := .list (ms.map dMn)
theorem lay_mns : ∀ ms : List Mn, (∀ m ∈ ms, m.Ok) → PyData.canLayAll0 (ms.map dMn) = true ∧ PyData.depthAll (ms.map dMn) ≤ 2
  | [], _ => ⟨rfl, Nat.zero_le _⟩
  | m :: ms, h => by
    have h1 := lay_mn (h m List.mem_cons_self)
    have h2 := lay_mns ms fun y hy => h y (List.mem_cons_of_mem _ hy)
    refine ⟨?_, ?_⟩
    · show (PyData.canLay0 (dMn m) && PyData.canLayAll0 (ms.map dMn)) = true
      rw [h1.1, h2.1]
      rfl
    · show max (PyData.depth (dMn m)) (PyData.depthAll (ms.map dMn)) ≤ 2
      rw [h1.2]
      exact Nat.max_le.mpr ⟨Nat.le_refl _, h2.2⟩
theorem shaped_mns {ms : List Mn} (h : ∀ m ∈ ms, m.Ok) : SeqAt.shaped (dMs ms) = true := by
  unfold SeqAt.shaped
  have e : PyData.depth (dMs ms) ≤ 3 := by
    show PyData.depthAll (ms.map dMn) + 1 ≤ 3
    have := (lay_mns ms h).2
    omega
  show (PyData.canLayAll0 (ms.map dMn) && _) = true
  rw [(lay_mns ms h).1, decide_eq_true (show PyData.depth (dMs ms) ≤ 64 by omega)]
  rfl
/-- vs are the manners ms -/
def Mans (H : Hp) (vs : List V) (ms : List Mn) : Prop := vs.length = ms.length ∧ ∀ (i : Nat) (v : V) (m : Mn), vs[i]? = some v → ms[i]? = some m → ManAt H v m
theorem Mans.nil {H : Hp} : Mans H [] [] := ⟨rfl, fun i v m h _ => by cases h⟩
theorem Mans.old {p : Addr} {H H' : Hp} {vs : List V} {ms : List Mn} {n : Nat} (h : Mans H vs ms) (hp : PurseAt H p n) (o : Old p H H') : Mans H' vs ms := ⟨h.1, fun i v m a b => (h.2 i v m a b).old hp o⟩
theorem Mans.same {H H' : Hp} {vs : List V} {ms : List Mn} (h : Mans H vs ms) (o : Same H H') : Mans H' vs ms := ⟨h.1, fun i v m a b => (h.2 i v m a b).same o⟩
/-- a list changes: the manners stand -/
theorem Mans.upd {H : Hp} {vs us : List V} {ms : List Mn} {l : Addr} {o : HO} (h : Mans H vs ms) (hl : H l = some (.lst us)) : Mans (upd H l o) vs ms := ⟨h.1, fun i v m a b => by
  obtain ⟨x, t, rfl, h1, h2⟩ := h.2 i v m a b
  exact ⟨x, t, rfl, by rw [upd_ne (ne_of h1 hl fun e => by cases e)]; exact h1, by unfold EfAt; rw [upd_ne (ne_of h2 hl fun e => by cases e)]; exact h2⟩⟩
theorem Mans.snoc {H : Hp} {vs : List V} {ms : List Mn} {v : V} {m : Mn} (h : Mans H vs ms) (hm : ManAt H v m) : Mans H (vs ++ [v]) (ms ++ [m]) := by
  refine ⟨by rw [List.length_append, List.length_append, h.1]; rfl, fun i x y h1 h2 => ?_⟩
  by_cases hi : i < vs.length
  · rw [List.getElem?_append_left hi] at h1
    rw [List.getElem?_append_left (by rw [← h.1]; exact hi)] at h2
    exact h.2 i x y h1 h2
  · rw [List.getElem?_append_right (by omega)] at h1
    rw [List.getElem?_append_right (by rw [← h.1]; omega), ← h.1] at h2
    cases e : i - vs.length with
    | zero =>
      rw [e] at h1 h2
      cases h1
      cases h2
      exact hm
    | succ k =>
      rw [e] at h1
      cases h1
theorem Mans.dp {K : PySem.W.Frag} {H : Hp} : ∀ {vs : List V} {ms : List Mn}, Mans H vs ms → DpAll K H vs (ms.map dMn)
  | [], [], _ => .nil
  | [], _ :: _, h => by cases h.1
  | _ :: _, [], h => by cases h.1
  | v :: vs, m :: ms, h => .cons (h.2 0 v m rfl rfl).dp (Mans.dp ⟨Nat.succ.inj h.1, fun i x y a b => h.2 (i + 1) x y (by simpa using a) (by simpa using b)⟩)
theorem any_mn {ms : List Mn} {m : Mn} : ((ms.map dMn).any fun z => PyData.eqv z (dMn m)) = true ↔ m ∈ ms := by
  rw [List.any_map, List.any_eq_true]
  constructor
  · rintro ⟨x, hx, e⟩
    rw [← (eqv_mn x m).mp e]
    exact hx
  · exact fun h => ⟨m, h, (eqv_mn m m).mpr rfl⟩
theorem not_take {α : Type} {l : List α} {i : Nat} {y : α} (nd : l.Nodup) (h : l[i]? = some y) : y ∉ l.take i := fun hm => by
  have hi : i < l.length := (List.getElem?_eq_some_iff.mp h).1
  have e : l.take (i + 1) = l.take i ++ [y] := by rw [List.take_succ, h]; rfl
  have n2 : (l.take (i + 1)).Nodup := (List.take_sublist _ _).nodup nd
  rw [e, List.nodup_append] at n2
  exact n2.2.2 y hm y (List.mem_singleton.mpr rfl) rfl
end L2.K03
set_option Elab.async false
set_option linter.all false
set_option maxRecDepth 100000
set_option maxHeartbeats 4000000
namespace L2.K03
open PySem PySem.Spec PyProof.Rows L2.EV
/-- rooms and jobs of a world -/
structure Base (rs js : List Str) : Prop where
  r : 0 < rs.length ∧ rs.length ≤ 8
  j : 0 < js.length ∧ js.length ≤ 8
  rw : ∀ y ∈ rs, Word y
  jw : ∀ y ∈ js, Word y
  rn : rs.Nodup
  jn : js.Nodup
theorem Mn.of.ok {m : Mn} {rs js : List Str} (h : m.of rs js) (b : Base rs js) : m.Ok := ⟨b.rw _ h.r, b.jw _ h.j, b.rw _ h.s, h.e⟩
structure Wd (ms : List Mn) (bs es rs js : List Str) : Prop where
  base : Base rs js
  mn : ms.Nodup
  ml : ms.length ≤ 20
  mo : ∀ m ∈ ms, m.of rs js
  bn : bs.Nodup
  bo : ∀ y ∈ bs, y ∈ rs
  en : es.Nodup
  eo : ∀ y ∈ es, y ∈ rs
/-- at a: a world -/
def WdAt (H : Hp) (a : Addr) (ms : List Mn) (bs es rs js : List Str) : Prop := ∃ (lm lb le lr lj : Addr) (vs : List V), H a = some (.lst [.ref lm, .ref lb, .ref le, .ref lr, .ref lj]) ∧
  H lm = some (.lst vs) ∧ Mans H vs ms ∧ H lb = some (.lst (bs.map V.str)) ∧ H le = some (.lst (es.map V.str)) ∧ H lr = some (.lst (rs.map V.str)) ∧ H lj = some (.lst (js.map V.str))
abbrev sWo : Stmt := top 45
abbrev nWo : List Str := ["_law_purse_here", "_law_rooms_here", "_law_jobs_here", "_law_most", "_law_manners", "_law_job", "_law_room", "_law_turn", "_law_manner_here"]
abbrev pWo : List Str := ["_law_purse_here", "_law_rooms_here", "_law_jobs_here", "_law_most"]
theorem scWo : FnScope nWo pWo (defScope sWo) := ⟨rfl, rfl, rfl, by decide +kernel, rfl, by decide +kernel, by decide +kernel⟩
def spWo : Sp := fun vs H Q _ => ∃ (p l j : Addr) (rs js : List Str) (m n : Nat), vs = [.ref p, .ref l, .ref j, .int (m : Int)] ∧ m ≤ 20 ∧ H l = some (.lst (rs.map V.str)) ∧ l ≠ p ∧ H j = some (.lst (js.map V.str)) ∧ j ≠ p ∧ Base rs js ∧ PurseAt H p n ∧ n < 2 ^ 43 ∧
  ∀ (a : Addr) (ms : List Mn) (bs es : List Str) (H' : Hp), Wd ms bs es rs js → WdAt H' a ms bs es rs js → a ≠ p → PurseAt H' p (n + 500) → Old p H H' → H a = none → Q (.ref a) H'
section
variable {P : Program} {w : World} {K : PySem.W.Frag} {mg : Str → Option Value} {base : Heap} {f : Addr} {fd : FuncData}
def rLn (K : PySem.W.Frag) : List V → Hp → VK → Prop := fun xs H Q => ∃ p ys, xs = [.ref p] ∧ (SqL K H p ys ∨ SqT K H p ys) ∧ Q (.int ys.length) H
abbrev tLenM (K : PySem.W.Frag) : TT := tTest (tOp (rI0 fun i j => .bl (decide (i < j))) (tCB (rLn K) (tCons (tVar 4) tNil)) (tVar 3))
abbrev tAppM (K : PySem.W.Frag) (te : TE) : TS := tDrop (tBM K "list" rAppend (tVar 4) (tCons te tNil))
abbrev tTail (K : PySem.W.Frag) : TS := tSeq (tFor (iRng1 (tCons (tCall spDraw [] E0 (tCons (tVar 0) (tCons (tOp (rI0 fun i j => .int (i + j)) (tVar 3) (tC (.int 1))) tNil))) tNil)) (gName 7)
    (tSeq (tAsg (tCall spMan [] E0 (tCons (tVar 0) (tCons (tVar 1) (tCons (tVar 2) tNil)))) (gName 8)) (tIfS (tAnd (tLenM K) (tTest (tOp (rNotInD K) (tVar 8) (tVar 4)))) (tAppM K (tVar 8)) tNext)))
  (tRet (tLst (tCons (tVar 4) (tCons (tCall spSome [] E0 (tCons (tVar 0) (tCons (tVar 1) tNil))) (tCons (tCall spSome [] E0 (tCons (tVar 0) (tCons (tVar 1) tNil))) (tCons (tVar 1) (tCons (tVar 2) tNil)))))))
theorem ok_wo (F : FnP K "_law_world_of" sWo f fd) (GD : Got P w K mg base 2 "_law_draw" ["_law_purse_here", "_law_many"] spDraw) (GO : Got P w K mg base 3 "_law_one_of" ["_law_purse_here", "_law_some_here"] spOne)
    (GE : Got P w K mg base 3 "_law_effect" ["_law_purse_here"] spEff) (GM : Got P w K mg base 4 "_law_manner" nMan spMan) (GS : Got P w K mg base 4 "_law_some" ["_law_purse_here", "_law_rooms_here"] spSome) (mL : mg "len" = none) (mR : mg "range" = none) :
    FnOk P w K mg base CX0 5 f fd pWo spWo := by
  refine F.ok scWo (fun vs H Q E h => ?_) (fun cdv A outer s H vs Q E hr h => ?_)
  · obtain ⟨p, l, j, rs, js, m, n, rfl, _⟩ := h
    rfl
  · obtain ⟨p, l, j, rs, js, m, n, rfl, hm, hl, nl, hj, nj, B, hp, hn, k⟩ := h
    have hu : (A.deeper (envOfC "_law_world_of" (defScope sWo) s.heap.objs.size f cdv)).units + 65 < cLine := by
      have := hr.un
      omega
    refine ⟨_, PSs.nox (pss_cons (ps_set (i := 4) scWo.nd rfl (Or.inl rfl) (pe_lst pa_nil))
      (pss_cons (ps_if (pt_cmpR op_gt (pe_got GD hr (pa_cons (pv 0) (pa_cons pe_int pa_nil))) pe_int (nomark _))
        (pss_one (ps_for PassesOwn.never rfl (pi_list (pv 2)) (pg_name (i := 5) scWo.nd rfl (Or.inl rfl))
          (pss_one (ps_for PassesOwn.never rfl (pi_list (pv 1)) (pg_name (i := 6) scWo.nd rfl (Or.inl rfl))
            (pss_one (ps_if (pt_cmpR op_lt (pe_callB call_len_seq (by rfl) mL PySem.boot_len (pa_cons (pv 4) pa_nil)) (pv 3) (nomark _))
              (pss_one (ps_expr (pe_bm PySem.F.plainAttrs_list PySem.F.slot_list_append PySem.F.type_list_append mt_append (pv 4)
                (pa_cons (pe_tup (pa_cons (pv 6) (pa_cons (pv 5) (pa_cons (pe_got GO hr (pa_cons (pv 0) (pa_cons (pv 1) pa_nil))) (pa_cons (pe_got GE hr (pa_cons (pv 0) pa_nil)) pa_nil))))) pa_nil)))) pss_nil)))))) pss_nil)
      (pss_cons (ps_for PassesOwn.never rfl (pi_range1 (by rfl) mR (pa_cons (pe_got GD hr (pa_cons (pv 0) (pa_cons (pe_op op_add (pv 3) pe_int) pa_nil))) pa_nil)) (pg_name (i := 7) scWo.nd rfl (Or.inl rfl))
        (pss_cons (ps_set (i := 8) scWo.nd rfl (Or.inl rfl) (pe_got GM hr (pa_cons (pv 0) (pa_cons (pv 1) (pa_cons (pv 2) pa_nil)))))
        (pss_one (ps_if (PW.pt (pw_and (pt_cmpR op_lt (pe_callB call_len_seq (by rfl) mL PySem.boot_len (pa_cons (pv 4) pa_nil)) (pv 3) (nomark _)) (pw_and1 (pt_cmpR (op_notInD hu) (pv 8) (pv 4) (by rfl)))))
          (pss_one (ps_expr (pe_bm PySem.F.plainAttrs_list PySem.F.slot_list_append PySem.F.type_list_append mt_append (pv 4) (pa_cons (pv 8) pa_nil)))) pss_nil))))
      (pss_one (ps_ret (pe_lst (pa_cons (pv 4) (pa_cons (pe_got GS hr (pa_cons (pv 0) (pa_cons (pv 1) pa_nil))) (pa_cons (pe_got GS hr (pa_cons (pv 0) (pa_cons (pv 1) pa_nil))) (pa_cons (pv 1) (pa_cons (pv 2) pa_nil))))))))))), ?_⟩
    refine ⟨Nat.zero_le _, fun lm hlm => ?_⟩
    obtain ⟨op, hop⟩ := hp.some
    have nlm : lm ≠ p := (ne_of_none hop hlm).symm
    have nll : l ≠ lm := ne_of_none hl hlm
    have njl : j ≠ lm := ne_of_none hj hlm
    have mid : ∀ (v5 v6 : Option V) (ms : List Mn) (vs : List V) (H1 : Hp), H1 lm = some (.lst vs) → Mans H1 vs ms → ms.Nodup → ms.length ≤ m → (∀ x ∈ ms, x.of rs js) → PurseAt H1 p (n + 260) → Old p H H1 →
        (tTail K) { nx := fun _ H' => Q .non H', rt := Q } [some (.ref p), some (.ref l), some (.ref j), some (.int (m : Int)), some (.ref lm), v5, v6, none, none] H1 := by
      intro v5 v6 ms vs H1 g1 M1 nd ml mo p1 o1
      refine ⟨_, rfl, _, rfl, _, _, rfl, rfl, p, _, n + 260, rfl, ⟨by omega, by omega⟩, p1, by omega, fun c H2 c0 c1 p2 b2 => ?_⟩
      obtain ⟨c, rfl⟩ := Int.eq_ofNat_of_zero_le c0
      have o2 : Old p H1 H2 := .of_but b2
      refine ⟨(c : Int), rfl, by omega, by omega, ?_⟩
      refine for_range (fun i σ H' => ∃ (v7 v8 : Option V) (ms : List Mn) (vs : List V), σ = [some (.ref p), some (.ref l), some (.ref j), some (.int (m : Int)), some (.ref lm), v5, v6, v7, v8] ∧
        H' lm = some (.lst vs) ∧ Mans H' vs ms ∧ ms.Nodup ∧ ms.length ≤ m ∧ (∀ x ∈ ms, x.of rs js) ∧ PurseAt H' p (n + 261 + 6 * i) ∧ Old p H H') ⟨none, none, ms, vs, rfl, o2 _ _ nlm g1, M1.old p1 o2, nd, ml, mo, p2, o1.trans o2⟩ ?_ ?_
      · rintro i σ H3 hi ⟨v7, v8, ms, vs, rfl, g3, M3, nd, ml, mo, p3, o3⟩
        refine ⟨_, rfl, _, rfl, _, rfl, p, l, j, rs, js, n + 261 + 6 * i, rfl, o3 _ _ nl hl, nl, o3 _ _ nj hj, nj, B.r, B.j, p3, by omega, fun a x H4 hx ax p4 o4 fa => ?_⟩
        have g4 := o4 _ _ nlm g3
        have M4 := M3.old p3 o4
        have stay : ∃ (v7 v8 : Option V) (ms : List Mn) (vs : List V), [some (.ref p), some (.ref l), some (.ref j), some (.int (m : Int)), some (.ref lm), v5, v6, some (.int (0 + (i : Int))), some (.ref a)] = [some (.ref p), some (.ref l), some (.ref j), some (.int (m : Int)), some (.ref lm), v5, v6, v7, v8] ∧
            H4 lm = some (.lst vs) ∧ Mans H4 vs ms ∧ ms.Nodup ∧ ms.length ≤ m ∧ (∀ x ∈ ms, x.of rs js) ∧ PurseAt H4 p (n + 261 + 6 * (i + 1)) ∧ Old p H H4 := ⟨_, _, ms, vs, rfl, g4, M4, nd, ml, mo, p4.up (by omega), o3.trans o4⟩
        refine ⟨_, rfl, lm, vs, rfl, .inl (SqL.of g4), _, rfl, _, _, rfl, rfl, _, rfl, ?_⟩
        refine ite2 (fun hlt => ?_) (fun _ => iteF stay)
        have lt : ms.length < m := by
          have := of_decide_eq_true hlt
          have := M4.1
          omega
        have mok : ∀ x ∈ ms, x.Ok := fun x hx => (mo x hx).ok B
        refine ⟨_, rfl, _, rfl, dMn x, ms.map dMn, ax.dp, .lst (SqL.of g4) M4.dp, shaped_mn (hx.ok B), shaped_mns mok, _, rfl, ?_⟩
        refine ite2 (fun hn => ?_) (fun _ => stay)
        have nx : x ∉ ms := fun hm => by
          rw [any_mn.mpr hm] at hn
          cases hn
        refine ⟨_, rfl, .inl ⟨rfl, _, SqL.of g4⟩, _, rfl, lm, vs, _, rfl, rfl, g4, ?_, ?_⟩
        · rw [M4.1]
          exact small1000 (by omega)
        · refine ⟨_, _, ms ++ [x], vs ++ [.ref a], rfl, upd_same, (M4.snoc ax).upd g4, ?_, ?_, fun y hy => ?_, (p4.upd_ne (Ne.symm nlm)).up (by omega), fun b o nb e => ?_⟩
          · rw [List.nodup_append]
            exact ⟨nd, by simp, fun a ha b hb e => nx (by rw [← List.mem_singleton.mp hb, ← e]; exact ha)⟩
          · rw [List.length_append]
            show ms.length + 1 ≤ m
            omega
          · rcases List.mem_append.mp hy with hy | hy
            · exact mo y hy
            · rw [List.mem_singleton.mp hy]; exact hx
          · rw [upd_ne (ne_of_none e hlm)]
            exact o4 b o nb (o3 b o nb e)
      · rintro σ H3 ⟨v7, v8, ms, vs, rfl, g3, M3, nd, ml, mo, p3, o3⟩
        refine ⟨_, rfl, _, rfl, _, rfl, p, l, rs, n + 261 + 6 * c, rfl, o3 _ _ nl hl, nl, B.r, B.rn, B.rw, p3, by omega, fun lb bs H4 bn bo g4 nb p4 o4 f4 => ?_⟩
        refine ⟨_, rfl, _, rfl, p, l, rs, n + 271 + 6 * c, rfl, (o3.trans o4) _ _ nl hl, nl, B.r, B.rn, B.rw, p4.up (by omega), by omega, fun le es H5 en eo g5 ne5 p5 o5 f5 => ?_⟩
        refine ⟨_, rfl, _, rfl, (by show 5 ≤ sizeLine; decide), fun a ha => ?_⟩
        obtain ⟨op5, hop5⟩ := p5.some
        have nap : p ≠ a := ne_of_none hop5 ha
        have s6 := same_upd (o := .lst [.ref lm, .ref lb, .ref le, .ref l, .ref j]) ha
        have o35 : Old p H3 H5 := o4.trans o5
        have oA : Old p H _ := (o3.trans o35).trans (.of_same s6)
        refine k a ms bs es _ ⟨B, nd, by omega, mo, bn, bo, en, eo⟩ ⟨lm, lb, le, l, j, vs, upd_same, s6 _ _ (o35 _ _ nlm g3), (M3.old p3 o35).same s6, s6 _ _ (o5 _ _ nb g4), s6 _ _ g5, s6 _ _ ((o3.trans o35) _ _ nl hl), s6 _ _ ((o3.trans o35) _ _ nj hj)⟩ (Ne.symm nap) ((p5.upd_ne nap).up (by omega)) oA ((o3.trans o35).free hop5 ha)
    have s1 := same_upd (o := .lst []) hlm
    have g1 : upd H lm (.lst []) lm = some (.lst []) := upd_same
    have p1 := hp.same s1
    generalize upd H lm (.lst []) = H1 at s1 g1 p1
    refine ⟨_, rfl, p, 3, n, rfl, ⟨by decide, by decide⟩, p1, by omega, fun c H2 c0 c1 p2 b2 => ?_⟩
    have o2 : Old p H H2 := (Old.of_same s1).trans (.of_but b2)
    have g2 : H2 lm = some (.lst []) := (b2 lm nlm).trans g1
    refine ⟨_, _, rfl, rfl, _, rfl, ?_⟩
    refine ite2 (fun _ => ?_) (fun _ => mid none none [] [] H2 g2 Mans.nil List.nodup_nil (Nat.zero_le _) (fun _ z => absurd z List.not_mem_nil) (p2.up (by omega)) o2)
    refine ⟨_, rfl, j, rfl, ⟨_, SqL.of (o2 _ _ nj hj)⟩, ?_⟩
    refine for_list (K := K) (a := j) (xs := js.map V.str) (fun i σ H' => ∃ (v5 v6 : Option V) (ms : List Mn) (vs : List V), σ = [some (.ref p), some (.ref l), some (.ref j), some (.int (m : Int)), some (.ref lm), v5, v6, none, none] ∧
      H' lm = some (.lst vs) ∧ Mans H' vs ms ∧ ms.Nodup ∧ ms.length ≤ m ∧ (∀ x ∈ ms, x.of rs js ∧ x.j ∈ js.take i) ∧ PurseAt H' p (n + 1 + 32 * i) ∧ Old p H H')
      ⟨none, none, [], [], rfl, g2, Mans.nil, List.nodup_nil, Nat.zero_le _, fun _ z => absurd z List.not_mem_nil, p2, o2⟩ (fun i σ H' _ ⟨_, _, _, _, _, _, _, _, _, _, _, o⟩ => SqL.of (o _ _ nj hj)) ?_ ?_
    · rintro i x0 σ H3 hi ⟨v5, v6, ms, vs, rfl, g3, M3, nd, ml, mo, p3, o3⟩
      rw [List.getElem?_map] at hi
      cases ej : js[i]? with
      | none => rw [ej] at hi; cases hi
      | some y =>
        rw [ej] at hi
        obtain rfl : V.str y = x0 := Option.some.inj hi
        have hlt : i < js.length := (List.getElem?_eq_some_iff.mp ej).1
        have ym : y ∈ js := List.mem_of_getElem? ej
        have yn : y ∉ js.take i := not_take B.jn ej
        have jl := B.j.2
        have rl := B.r.2
        refine ⟨_, rfl, l, rfl, ⟨_, SqL.of (o3 _ _ nl hl)⟩, ?_⟩
        refine for_list (K := K) (a := l) (xs := rs.map V.str) (fun k σ H' => ∃ (v6 : Option V) (ms : List Mn) (vs : List V), σ = [some (.ref p), some (.ref l), some (.ref j), some (.int (m : Int)), some (.ref lm), some (.str y), v6, none, none] ∧
          H' lm = some (.lst vs) ∧ Mans H' vs ms ∧ ms.Nodup ∧ ms.length ≤ m ∧ (∀ x ∈ ms, x.of rs js ∧ (x.j ∈ js.take i ∨ (x.j = y ∧ x.r ∈ rs.take k))) ∧ PurseAt H' p (n + 1 + 32 * i + 4 * k) ∧ Old p H H')
          ⟨v6, ms, vs, rfl, g3, M3, nd, ml, fun x hx => ⟨(mo x hx).1, .inl (mo x hx).2⟩, p3, o3⟩ (fun k σ H' _ ⟨_, _, _, _, _, _, _, _, _, _, o⟩ => SqL.of (o _ _ nl hl)) ?_ ?_
        · rintro q z0 σ H4 hq ⟨v6, ms, vs, rfl, g4, M4, nd, ml, mo, p4, o4⟩
          rw [List.getElem?_map] at hq
          cases er : rs[q]? with
          | none => rw [er] at hq; cases hq
          | some z =>
            rw [er] at hq
            obtain rfl : V.str z = z0 := Option.some.inj hq
            have hqt : q < rs.length := (List.getElem?_eq_some_iff.mp er).1
            have zm : z ∈ rs := List.mem_of_getElem? er
            have zn : z ∉ rs.take q := not_take B.rn er
            have et : rs.take (q + 1) = rs.take q ++ [z] := by rw [List.take_succ, er]; rfl
            refine ⟨_, rfl, lm, vs, rfl, .inl (SqL.of g4), _, rfl, _, _, rfl, rfl, _, rfl, ?_⟩
            refine ite2 (fun hl4 => ?_) (fun _ => ⟨_, ms, vs, rfl, g4, M4, nd, ml, fun x hx => ⟨(mo x hx).1, (mo x hx).2.imp id fun a => ⟨a.1, by rw [et]; exact List.mem_append_left _ a.2⟩⟩, p4.up (by omega), o4⟩)
            have lt : ms.length < m := by
              have := of_decide_eq_true hl4
              have := M4.1
              omega
            refine ⟨_, rfl, .inl ⟨rfl, _, SqL.of g4⟩, _, rfl, _, rfl, _, rfl, _, rfl, p, l, rs.map V.str, n + 1 + 32 * i + 4 * q, rfl, o4 _ _ nl hl, nl, ⟨by rw [List.length_map]; exact B.r.1, by rw [List.length_map]; exact Nat.lt_of_le_of_lt rl (by decide)⟩, p4, by omega, fun i5 x5 H5 h5 p5 b5 => ?_⟩
            obtain ⟨y3, m3, rfl⟩ := item_str h5
            have o5 : Old p H4 H5 := .of_but b5
            refine ⟨_, rfl, p, n + 1 + 32 * i + 4 * q + 1, rfl, p5, by omega, fun t e H6 he ht nt p6 o6 ft => ?_⟩
            refine ⟨by show 4 ≤ sizeLine; decide, fun a ha => ?_⟩
            have o46 : Old p H4 H6 := o5.trans o6
            have s7 := same_upd (o := .tup [.str z, .str y, .str y3, .ref t]) ha
            have am : ManAt (upd H6 a (.tup [.str z, .str y, .str y3, .ref t])) (.ref a) ⟨z, y, y3, e⟩ := ⟨a, t, rfl, upd_same, s7 _ _ ht⟩
            have g7 := s7 _ _ (o46 _ _ nlm g4)
            have M7 := (M4.old p4 o46).same s7
            have p7 := p6.same s7
            generalize upd H6 a (.tup [.str z, .str y, .str y3, .ref t]) = H7 at s7 am g7 M7 p7
            have nx : (⟨z, y, y3, e⟩ : Mn) ∉ ms := fun hm => by
              rcases (mo _ hm).2 with h | h
              · exact yn h
              · exact zn h.2
            refine ⟨lm, vs, _, rfl, rfl, g7, ?_, ?_⟩
            · rw [M7.1]
              exact small1000 (by omega)
            · refine ⟨_, ms ++ [⟨z, y, y3, e⟩], vs ++ [.ref a], rfl, upd_same, (M7.snoc am).upd g7, ?_, ?_, fun x hx => ?_, (p7.upd_ne (Ne.symm nlm)).up (by omega), fun b o nb eb => ?_⟩
              · rw [List.nodup_append]
                exact ⟨nd, by simp, fun a ha b hb e => nx (by rw [← List.mem_singleton.mp hb, ← e]; exact ha)⟩
              · rw [List.length_append]
                show ms.length + 1 ≤ m
                omega
              · rcases List.mem_append.mp hx with hx | hx
                · exact ⟨(mo x hx).1, (mo x hx).2.imp id fun a => ⟨a.1, by rw [et]; exact List.mem_append_left _ a.2⟩⟩
                · rw [List.mem_singleton.mp hx]
                  exact ⟨⟨zm, ym, m3, he⟩, .inr ⟨rfl, by rw [et]; exact List.mem_append_right _ (List.mem_singleton.mpr rfl)⟩⟩
              · rw [upd_ne (ne_of_none eb hlm)]
                exact s7 _ _ (o46 b o nb (o4 b o nb eb))
        · rintro σ H4 ⟨v6, ms, vs, rfl, g4, M4, nd, ml, mo, p4, o4⟩
          rw [List.length_map] at p4 mo
          have et : js.take (i + 1) = js.take i ++ [y] := by rw [List.take_succ, ej]; rfl
          refine ⟨_, _, ms, vs, rfl, g4, M4, nd, ml, fun x hx => ⟨(mo x hx).1, ?_⟩, p4.up (by omega), o4⟩
          rw [et]
          rcases (mo x hx).2 with h | h
          · exact List.mem_append_left _ h
          · exact List.mem_append_right _ (List.mem_singleton.mpr h.1)
    · rintro σ H3 ⟨v5, v6, ms, vs, rfl, g3, M3, nd, ml, mo, p3, o3⟩
      rw [List.length_map] at p3
      have jl := B.j.2
      exact mid v5 v6 ms vs H3 g3 M3 nd ml (fun x hx => (mo x hx).1) (p3.up (by omega)) o3
end
end L2.K03
set_option Elab.async false
set_option linter.all false
set_option maxRecDepth 100000
set_option maxHeartbeats 4000000
namespace L2.K03
open PySem PySem.Spec PyProof.Rows L2.EV
theorem cut_take (ws : List Str) (a : Nat) : cutV (ws.map V.str) none (some (a : Int)) = (ws.take a).map V.str := by
  unfold cutV
  rw [HT.sIx_none, HT.sIx_nat, List.drop_zero, Nat.sub_zero, List.length_map, ← List.map_take]
  congr 1
  by_cases h : a ≤ ws.length
  · rw [Nat.min_eq_left h]
  · rw [Nat.min_eq_right (by omega), List.take_of_length_le (Nat.le_refl _), List.take_of_length_le (by omega)]
theorem cut_drop (ws : List Str) (a : Nat) (h : a ≤ ws.length) : cutV (ws.map V.str) (some (a : Int)) none = (ws.drop a).map V.str := by
  unfold cutV
  rw [HT.sIx_none, HT.sIx_nat, List.length_map, Nat.min_eq_left h, ← List.map_drop]
  exact List.take_of_length_le (by rw [List.length_map, List.length_drop]; exact Nat.le_refl _)
abbrev sWorld : Stmt := top 46
abbrev pWorld : List Str := ["_law_purse_here", "_law_rooms_here", "_law_jobs_here", "_law_most"]
abbrev nWorld : List Str := ["_law_purse_here", "_law_rooms_here", "_law_jobs_here", "_law_most", "_law_words_here"]
theorem scWorld : FnScope nWorld pWorld (defScope sWorld) := ⟨rfl, rfl, rfl, by decide +kernel, rfl, by decide +kernel, by decide +kernel⟩
def spWorld : Sp := fun vs H Q _ => ∃ (p : Addr) (r j m n : Nat), vs = [.ref p, .int (r : Int), .int (j : Int), .int (m : Int)] ∧ (1 ≤ r ∧ r ≤ 4) ∧ (1 ≤ j ∧ j ≤ 4) ∧ m ≤ 20 ∧ PurseAt H p n ∧ n < 2 ^ 38 ∧
  ∀ (a : Addr) (ms : List Mn) (bs es rs js : List Str) (H' : Hp), rs.length = r → js.length = j → Wd ms bs es rs js → WdAt H' a ms bs es rs js → a ≠ p → PurseAt H' p (n + 700) → Old p H H' → H a = none → Q (.ref a) H'
section
variable {P : Program} {w : World} {K : PySem.W.Frag} {mg : Str → Option Value} {base : Heap} {f : Addr} {fd : FuncData}
theorem ok_world (F : FnP K "_law_world" sWorld f fd) (GD : Got P w K mg base 2 "_law_draw" ["_law_purse_here", "_law_many"] spDraw) (GW : Got P w K mg base 4 "_law_words" ["_law_purse_here", "_law_many"] spWords) (GO : Got P w K mg base 5 "_law_world_of" pWo spWo) :
    FnOk P w K mg base CX0 6 f fd pWorld spWorld := by
  refine F.ok scWorld (fun vs H Q E h => ?_) (fun cdv A outer s H vs Q E hr h => ?_)
  · obtain ⟨p, r, j, m, n, rfl, _⟩ := h
    rfl
  · obtain ⟨p, r, j, m, n, rfl, hr4, hj4, hm, hp, hn, k⟩ := h
    refine ⟨_, PSs.nox (pss_cons (ps_set (i := 4) scWorld.nd rfl (Or.inl rfl) (pe_got GW hr (pa_cons (pv 0) (pa_cons (pe_op op_add (pv 1) (pv 2)) pa_nil))))
      (pss_cons (ps_if (pt_cmpR op_eq (pe_got GD hr (pa_cons (pv 0) (pa_cons pe_int pa_nil))) pe_int (nomark _))
        (pss_one (ps_ret (pe_got GO hr (pa_cons (pv 0) (pa_cons (pe_slice sl_list (pv 4) po_none (po_some (pv 1))) (pa_cons (pe_slice sl_list (pv 4) po_none (po_some (pv 2))) (pa_cons (pv 3) pa_nil))))))) pss_nil)
      (pss_one (ps_ret (pe_got GO hr (pa_cons (pv 0) (pa_cons (pe_slice sl_list (pv 4) po_none (po_some (pv 1))) (pa_cons (pe_slice sl_list (pv 4) (po_some (pv 1)) po_none) (pa_cons (pv 3) pa_nil))))))))), ?_⟩
    refine ⟨_, rfl, _, rfl, _, rfl, _, _, rfl, rfl, p, r + j, n, rfl, by omega, hp, by omega, fun lw ws H1 lws ww nd g1 nlw p1 o1 f1 => ?_⟩
    refine ⟨_, rfl, p, 4, n + 110, rfl, ⟨by decide, by decide⟩, p1, by omega, fun c H2 c0 c1 p2 b2 => ?_⟩
    have o2 : Old p H H2 := o1.trans (.of_but b2)
    have g2 : H2 lw = some (.lst (ws.map V.str)) := (b2 lw nlw).trans g1
    have sub : ∀ {l : List Str}, l.Sublist ws → 0 < l.length ∧ l.length ≤ 8 → (0 < l.length ∧ l.length ≤ 8) ∧ (∀ y ∈ l, Word y) ∧ l.Nodup := fun s h => ⟨h, fun y hy => ww y (s.subset hy), s.nodup nd⟩
    have go : ∀ (js : List Str), js.Sublist ws → js.length = j → ∀ (l1 l2 : Addr) (H3 : Hp), H3 l1 = some (.lst ((ws.take r).map V.str)) → H3 l2 = some (.lst (js.map V.str)) → Same H2 H3 → spWo ([.ref p, .ref l1, .ref l2, .int (m : Int)] ++ []) H3 Q E0 := by
      intro js sj lj l1 l2 H3 h1 h2 s3
      have p3 := p2.same s3
      obtain ⟨x, y, z, u, hpp, _⟩ := id p3
      have a1 := sub (List.take_sublist r ws) (by rw [List.length_take]; omega)
      have a2 := sub sj (by omega)
      refine ⟨p, l1, l2, ws.take r, js, m, n + 111, rfl, hm, h1, ?_, h2, ?_, ⟨a1.1, a2.1, a1.2.1, a2.2.1, a1.2.2, a2.2.2⟩, p3, by omega, fun a ms bs es H4 wd wa na p4 o4 f4 => ?_⟩
      · refine ne_of h1 hpp fun e => ?_
        injection e with e
        cases hh : (ws.take r) with
        | nil => rw [hh] at e; cases e
        | cons b bs => rw [hh] at e; cases e
      · refine ne_of h2 hpp fun e => ?_
        injection e with e
        cases hh : js with
        | nil => rw [hh] at e; cases e
        | cons b bs => rw [hh] at e; cases e
      · refine k a ms bs es (ws.take r) js H4 (by rw [List.length_take]; omega) lj wd wa na (p4.up (by omega)) ((o2.trans (.of_same s3)).trans o4) ?_
        exact (o2.trans (.of_same s3)).free hpp f4
    refine ⟨rfl, _, rfl, ?_⟩
    refine ite2 (fun _ => ?_) (fun _ => ?_)
    · refine ⟨_, rfl, _, rfl, _, rfl, _, rfl, _, _, rfl, SqL.of g2, fun l1 hl1 => ?_⟩
      rw [cut_take]
      have s1 := same_upd (o := .lst ((ws.take r).map V.str)) hl1
      have k1 : upd H2 l1 (.lst ((ws.take r).map V.str)) l1 = some (.lst ((ws.take r).map V.str)) := upd_same
      generalize upd H2 l1 (.lst ((ws.take r).map V.str)) = H3 at s1 k1
      refine ⟨_, rfl, _, rfl, _, rfl, _, _, rfl, SqL.of (s1 _ _ g2), fun l2 hl2 => ?_⟩
      rw [cut_take]
      have s2 := same_upd (o := .lst ((ws.take j).map V.str)) hl2
      exact ⟨_, rfl, go (ws.take j) (List.take_sublist _ _) (by rw [List.length_take]; omega) l1 l2 _ (s2 _ _ k1) upd_same (s1.trans s2)⟩
    · refine ⟨_, rfl, _, rfl, _, rfl, _, rfl, _, _, rfl, SqL.of g2, fun l1 hl1 => ?_⟩
      rw [cut_take]
      have s1 := same_upd (o := .lst ((ws.take r).map V.str)) hl1
      have k1 : upd H2 l1 (.lst ((ws.take r).map V.str)) l1 = some (.lst ((ws.take r).map V.str)) := upd_same
      generalize upd H2 l1 (.lst ((ws.take r).map V.str)) = H3 at s1 k1
      refine ⟨_, rfl, _, rfl, _, rfl, _, _, rfl, SqL.of (s1 _ _ g2), fun l2 hl2 => ?_⟩
      rw [cut_drop _ _ (by omega)]
      have s2 := same_upd (o := .lst ((ws.drop r).map V.str)) hl2
      exact ⟨_, rfl, go (ws.drop r) (List.drop_sublist _ _) (by rw [List.length_drop]; omega) l1 l2 _ (s2 _ _ k1) upd_same (s1.trans s2)⟩
end
end L2.K03
set_option Elab.async false
set_option linter.all false
set_option maxRecDepth 100000
set_option maxHeartbeats 4000000
namespace L2.K03
open PySem PySem.Spec PyProof.Rows L2.EV
section
variable {K : PySem.W.Frag} {a b : Addr} {xs ys : List V} {g : TG} {tt : TT} {te : TE} {vs : List Nat} {σ : St} {H1 : Hp} {D : Addr} {Qd : Hp → Prop}
/-- a new list over the pairs of two lists of one length -/
theorem lc_pairsL (hl : xs.length = ys.length) (Pv : Nat → Hp → Prop) (h0 : Pv 0 (upd H1 D (.lst []))) (hq : ∀ i H, Pv i H → SqL K H a xs ∧ SqL K H b ys)
    (hs : ∀ i x y T H, xs[i]? = some x → ys[i]? = some y → Pv i H → H T = none → g (.ref T) (wipe σ vs) (upd H T (.tup [x, y])) fun σ2 H2 => wipe σ2 vs = wipe σ vs ∧ tt σ2 H2 fun c H3 =>
      if c = true then te σ2 H3 fun z H4 => ∃ acc, H4 D = some (.lst acc) ∧ acc.length < sizeLine ∧ Pv (i + 1) (upd H4 D (.lst (acc ++ [z]))) else Pv (i + 1) H3) (hd : ∀ H, Pv xs.length H → Qd H) :
    ∃ W : Nat → Nat → Hp → Prop, (∃ m, W 0 m (upd H1 D (.lst []))) ∧ ∀ i m H, W i m H →
      ((Itz K a b).stop i H ∧ Qd H) ∨ ((Itz K a b).go i H ∧ ∃ Nx : Hp → Prop, (∀ H', Nx H' → ∃ m', m' < m ∧ W (i + 1) m' H') ∧ ∀ x H', (Itz K a b).yld i H x H' → g x (wipe σ vs) H' fun σ2 H2 => wipe σ2 vs = wipe σ vs ∧ tt σ2 H2 fun c H3 =>
        if c = true then te σ2 H3 fun z H4 => ∃ acc, H4 D = some (.lst acc) ∧ acc.length < sizeLine ∧ Nx (upd H4 D (.lst (acc ++ [z]))) else Nx H3) := by
  refine ⟨fun i m H => m + i = xs.length ∧ Pv i H, ⟨xs.length, rfl, h0⟩, ?_⟩
  rintro i m H ⟨hm, p⟩
  obtain ⟨qa, qb⟩ := hq i H p
  rcases Nat.lt_or_ge i xs.length with hlt | hge
  · have ex : xs[i]? = some xs[i] := List.getElem?_eq_getElem hlt
    have ey : ys[i]? = some (ys[i]'(hl ▸ hlt)) := List.getElem?_eq_getElem _
    refine .inr ⟨⟨xs, ys, _, _, qa, qb, ex, ey⟩, Pv (i + 1), fun H' p' => ⟨xs.length - (i + 1), by omega, by omega, p'⟩, ?_⟩
    rintro v H' ⟨T, x, y, rfl, hT, rfl, fx, fy⟩
    exact hs i x y T H (fx xs qa) (fy ys qb) p hT
  · have e : i = xs.length := by omega
    rw [e] at p
    exact .inl ⟨⟨xs, ys, qa, qb, .inl hge⟩, hd H p⟩
/-- the same of two tuples -/
theorem lc_pairsT (hl : xs.length = ys.length) (Pv : Nat → Hp → Prop) (h0 : Pv 0 (upd H1 D (.lst []))) (hq : ∀ i H, Pv i H → SqT K H a xs ∧ SqT K H b ys)
    (hs : ∀ i x y T H, xs[i]? = some x → ys[i]? = some y → Pv i H → H T = none → g (.ref T) (wipe σ vs) (upd H T (.tup [x, y])) fun σ2 H2 => wipe σ2 vs = wipe σ vs ∧ tt σ2 H2 fun c H3 =>
      if c = true then te σ2 H3 fun z H4 => ∃ acc, H4 D = some (.lst acc) ∧ acc.length < sizeLine ∧ Pv (i + 1) (upd H4 D (.lst (acc ++ [z]))) else Pv (i + 1) H3) (hd : ∀ H, Pv xs.length H → Qd H) :
    ∃ W : Nat → Nat → Hp → Prop, (∃ m, W 0 m (upd H1 D (.lst []))) ∧ ∀ i m H, W i m H →
      ((RZ.ItzT K a b).stop i H ∧ Qd H) ∨ ((RZ.ItzT K a b).go i H ∧ ∃ Nx : Hp → Prop, (∀ H', Nx H' → ∃ m', m' < m ∧ W (i + 1) m' H') ∧ ∀ x H', (RZ.ItzT K a b).yld i H x H' → g x (wipe σ vs) H' fun σ2 H2 => wipe σ2 vs = wipe σ vs ∧ tt σ2 H2 fun c H3 =>
        if c = true then te σ2 H3 fun z H4 => ∃ acc, H4 D = some (.lst acc) ∧ acc.length < sizeLine ∧ Nx (upd H4 D (.lst (acc ++ [z]))) else Nx H3) := by
  refine ⟨fun i m H => m + i = xs.length ∧ Pv i H, ⟨xs.length, rfl, h0⟩, ?_⟩
  rintro i m H ⟨hm, p⟩
  obtain ⟨qa, qb⟩ := hq i H p
  rcases Nat.lt_or_ge i xs.length with hlt | hge
  · have ex : xs[i]? = some xs[i] := List.getElem?_eq_getElem hlt
    have ey : ys[i]? = some (ys[i]'(hl ▸ hlt)) := List.getElem?_eq_getElem _
    refine .inr ⟨⟨xs, ys, _, _, qa, qb, ex, ey⟩, Pv (i + 1), fun H' p' => ⟨xs.length - (i + 1), by omega, by omega, p'⟩, ?_⟩
    rintro v H' ⟨T, x, y, rfl, hT, rfl, fx, fy⟩
    exact hs i x y T H (fx xs qa) (fy ys qb) p hT
  · have e : i = xs.length := by omega
    rw [e] at p
    exact .inl ⟨⟨xs, ys, qa, qb, .inl hge⟩, hd H p⟩
end
end L2.K03
set_option Elab.async false
set_option linter.all false
set_option maxRecDepth 100000
set_option maxHeartbeats 4000000
namespace L2.K03
open PySem PySem.Spec PyProof.Rows L2.EV
/-! ### alike to the depth n -/
inductive Alk (H : Hp) : Nat → V → V → Prop
  | flat {n : Nat} {v : V} : flatV v = true → Alk H (n + 1) v v
  | lst {n : Nat} {a b : Addr} {xs ys : List V} : H a = some (.lst xs) → H b = some (.lst ys) → xs.length = ys.length → xs.length ≤ 900 → (∀ (i : Nat) (x y : V), xs[i]? = some x → ys[i]? = some y → Alk H n x y) → Alk H (n + 1) (.ref a) (.ref b)
  | tup {n : Nat} {a b : Addr} {xs ys : List V} : H a = some (.tup xs) → H b = some (.tup ys) → xs.length = ys.length → xs.length ≤ 900 → (∀ (i : Nat) (x y : V), xs[i]? = some x → ys[i]? = some y → Alk H n x y) → Alk H (n + 1) (.ref a) (.ref b)
theorem Alk.same {H H' : Hp} (s : Same H H') : ∀ {n : Nat} {x y : V}, Alk H n x y → Alk H' n x y := fun {n x y} h => by
  induction h with
  | flat h => exact .flat h
  | lst h1 h2 h3 h4 _ ih => exact .lst (s _ _ h1) (s _ _ h2) h3 h4 ih
  | tup h1 h2 h3 h4 _ ih => exact .tup (s _ _ h1) (s _ _ h2) h3 h4 ih
theorem any_tt {K : PySem.W.Frag} {T : String} {b c : Bool} (h1 : kitB T "list" = some b) (h2 : kitB T "tuple" = some c) : PySem.W.kitAny K (.type T) [.type "list", .type "tuple"] = some (b || c) := by
  refine kitAny_cons (kit_ty h1) (fun hb => ?_) (fun hb => by rw [hb]; rfl)
  refine kitAny_cons (kit_ty h2) (fun hc => ?_) (fun hc => by rw [hb, hc]; rfl)
  rw [hb, hc]
  exact kitAny_nil
abbrev sEx : Stmt := top 39
abbrev pEx : List Str := ["_law_one", "_law_other"]
abbrev nEx : List Str := ["_law_one", "_law_other", "_law_alike", "_law_a", "_law_b", "_law_key"]
theorem scEx : FnScope nEx pEx (defScope sEx) := ⟨rfl, rfl, rfl, by decide +kernel, rfl, by decide +kernel, by decide +kernel⟩
def spEx (n : Nat) : Sp := fun vs H Q _ => ∃ x y, vs = [x, y] ∧ Alk H n x y ∧ ∀ H', Same H H' → Q (.bl true) H'
section
variable {P : Program} {w : World} {K : PySem.W.Frag} {mg : Str → Option Value} {base : Heap} {f : Addr} {fd : FuncData}
theorem ok_ex_step {n : Nat} (F : FnP K "_law_exact" sEx f fd) (G : Got P w K mg base (n + 1) "_law_exact" pEx (spEx n)) (mIs : mg "isinstance" = none) (mL : mg "len" = none) (mA : mg "all" = none) (mZ : mg "zip" = none) (mLi : mg "list" = none) (mT : mg "tuple" = none) (mD : mg "dict" = none) (mB : mg "bool" = none) :
    FnOk P w K mg base CX0 (n + 2) f fd pEx (spEx (n + 1)) := by
  refine F.ok scEx (fun vs H Q E h => ?_) (fun cdv A outer s H vs Q E hr h => ?_)
  · obtain ⟨x, y, rfl, _⟩ := h
    rfl
  · obtain ⟨x, y, rfl, hA, k⟩ := h
    have hu1 := hu_of hr
    have tl : ∀ {X : Cx} {p : Pos}, X.mg = mg → Gl X "list" → PE X (.Name "list" p) (tC (.ty "list")) := fun {X p} e g => pe_bltn (v := .ty "list") (u := .type "list") g (by rw [e]; exact mLi) (by decide +kernel) rfl
    have tt : ∀ {X : Cx} {p : Pos}, X.mg = mg → Gl X "tuple" → PE X (.Name "tuple" p) (tC (.ty "tuple")) := fun {X p} e g => pe_bltn (v := .ty "tuple") (u := .type "tuple") g (by rw [e]; exact mT) (by decide +kernel) rfl
    have td : ∀ {X : Cx} {p : Pos}, X.mg = mg → Gl X "dict" → PE X (.Name "dict" p) (tC (.ty "dict")) := fun {X p} e g => pe_bltn (v := .ty "dict") (u := .type "dict") g (by rw [e]; exact mD) (by decide +kernel) rfl
    have tb : ∀ {X : Cx} {p : Pos}, X.mg = mg → Gl X "bool" → PE X (.Name "bool" p) (tC (.ty "bool")) := fun {X p} e g => pe_bltn (v := .ty "bool") (u := .type "bool") g (by rw [e]; exact mB) (by decide +kernel) rfl
    refine ⟨_, PSs.nox (pss_cons (ps_if (pt_val (pe_callB call_isiT (by rfl) mIs (by decide +kernel) (pa_cons (pv 0) (pa_cons (pe_tup (pa_cons (tl rfl (by rfl)) (pa_cons (tt rfl (by rfl)) pa_nil))) pa_nil))))
        (pss_cons (ps_set (i := 2) scEx.nd rfl (Or.inl rfl) (pe_and (pe_cmpR op_eq (pe_callB call_isi (by rfl) mIs (by decide +kernel) (pa_cons (pv 1) (pa_cons (tl rfl (by rfl)) pa_nil))) (pe_callB call_isi (by rfl) mIs (by decide +kernel) (pa_cons (pv 0) (pa_cons (tl rfl (by rfl)) pa_nil))) (nomark _))
            (pe_one (pe_cmpR op_eq (pe_callB call_isi (by rfl) mIs (by decide +kernel) (pa_cons (pv 1) (pa_cons (tt rfl (by rfl)) pa_nil))) (pe_callB call_isi (by rfl) mIs (by decide +kernel) (pa_cons (pv 0) (pa_cons (tt rfl (by rfl)) pa_nil))) (nomark _)))))
          (pss_one (ps_ret (pe_and (pv 2) (pe_and (pe_cmpR op_eq (pe_callB call_len_seq (by rfl) mL PySem.boot_len (pa_cons (pv 0) pa_nil)) (pe_callB call_len_seq (by rfl) mL PySem.boot_len (pa_cons (pv 1) pa_nil)) (nomark _))
            (pe_one (pe_callB (cr_all rfl) (by rfl) mA (by decide +kernel) (pa_cons
              (pe_lc (own := [("_law_a", 3), ("_law_b", 4)]) (g := gTup K 2 (gCons (gName 3) (gCons (gName 4) gNil))) (tt := tYes) (by rfl) scEx.nd (RZ.pi_zipA (by rfl) mZ (pa_cons (pv 0) (pa_cons (pv 1) pa_nil)))
                (blkOk_by (own := [("_law_a", 3), ("_law_b", 4)]) (N := nEx) (sc := defScope sEx) (by decide +kernel))
                (fun _ _ _ _ _ => pg_tup rfl (pgs_cons (pg_name (i := 3) scEx.nd rfl (Or.inl rfl)) (pgs_cons (pg_name (i := 4) scEx.nd rfl (Or.inl rfl)) pgs_nil))) (fun _ _ _ _ _ => pts_nil) (fun _ _ _ _ _ => pe_got G hr (pa_cons (pv 3) (pa_cons (pv 4) pa_nil)) (by rfl) (Nat.le_refl _))) pa_nil)))))))) pss_nil)
      (pss_cons (ps_if (pt_val (pe_callB call_isi (by rfl) mIs (by decide +kernel) (pa_cons (pv 0) (pa_cons (td rfl (by rfl)) pa_nil))))
        (pss_cons (ps_set (i := 2) scEx.nd rfl (Or.inl rfl) (pe_and (pe_callB call_isi (by rfl) mIs (by decide +kernel) (pa_cons (pv 1) (pa_cons (td rfl (by rfl)) pa_nil)))
            (pe_one (pe_got G hr (pa_cons (pe_callTy (call_list_dK rfl) (by rfl) mLi (by decide +kernel) (pa_cons (pv 0) pa_nil)) (pa_cons (pe_callTy (call_list_dK rfl) (by rfl) mLi (by decide +kernel) (pa_cons (pv 1) pa_nil)) pa_nil)) (by rfl) (Nat.le_refl _)))))
          (pss_one (ps_ret (pe_and (pv 2) (pe_one (pe_callB (cr_all rfl) (by rfl) mA (by decide +kernel) (pa_cons
              (pe_lc (own := [("_law_key", 5)]) (g := gName 5) (tt := tYes) (by rfl) scEx.nd (pi_keys (pv 0)) (blkOk_by (own := [("_law_key", 5)]) (N := nEx) (sc := defScope sEx) (by decide +kernel))
                (fun _ _ _ _ _ => pg_name (i := 5) scEx.nd rfl (Or.inl rfl)) (fun _ _ _ _ _ => pts_nil) (fun _ _ _ _ _ => pe_got G hr (pa_cons (pe_dget hu1 (pv 0) (pv 5) (fun _ _ => rfl)) (pa_cons (pe_dget hu1 (pv 1) (pv 5) (fun _ _ => rfl)) pa_nil)) (by rfl) (Nat.le_refl _))) pa_nil))))))) pss_nil)
      (pss_one (ps_ret (pe_and (pe_cmpR op_eq (pe_callB call_isi (by rfl) mIs (by decide +kernel) (pa_cons (pv 0) (pa_cons (tb rfl (by rfl)) pa_nil))) (pe_callB call_isi (by rfl) mIs (by decide +kernel) (pa_cons (pv 1) (pa_cons (tb rfl (by rfl)) pa_nil))) (nomark _))
        (pe_one (pe_cmpR op_eq (pv 0) (pv 1) (nomark _)))))))), ?_⟩
    cases hA with
    | flat hf =>
      obtain ⟨T, c, ty, h1, h2, h3, h4, hs⟩ : ∃ (T : String) (c : Bool), (∀ H', TyX K H' x (.type T)) ∧ kitB T "list" = some false ∧ kitB T "tuple" = some false ∧ kitB T "dict" = some false ∧ kitB T "bool" = some c ∧ scal x x = true := by
        cases x with
        | non => exact ⟨_, _, fun _ => .base .non, by decide +kernel, by decide +kernel, by decide +kernel, (by decide +kernel : kitB "NoneType" "bool" = some false), rfl⟩
        | bl b => exact ⟨_, _, fun _ => .base (.bl b), by decide +kernel, by decide +kernel, by decide +kernel, (by decide +kernel : kitB "bool" "bool" = some true), rfl⟩
        | int b => exact ⟨_, _, fun _ => .base (.int b), by decide +kernel, by decide +kernel, by decide +kernel, (by decide +kernel : kitB "int" "bool" = some false), rfl⟩
        | str b => exact ⟨_, _, fun _ => .base (.str b), by decide +kernel, by decide +kernel, by decide +kernel, (by decide +kernel : kitB "str" "bool" = some false), rfl⟩
        | _ => cases hf
      refine ⟨_, rfl, (by show 2 ≤ sizeLine; decide), fun tp htp => ?_⟩
      have s1 := same_upd (o := .tup [.ty "list", .ty "tuple"]) htp
      refine ⟨x, tp, _, .type T, [.type "list", .type "tuple"], _, rfl, upd_same, .cons (.ty _) (.cons (.ty _) .nil), ty _, any_tt h1 h2, _, rfl, iteF ?_⟩
      refine ⟨_, rfl, x, .ty "dict", _, _, false, rfl, .ty _, ty _, kit_ty h3, _, rfl, iteF ?_⟩
      refine ⟨_, rfl, x, .ty "bool", _, _, c, rfl, .ty _, ty _, kit_ty h4, _, rfl, x, .ty "bool", _, _, c, rfl, .ty _, ty _, kit_ty h4, (by cases c <;> rfl), _, rfl, ?_⟩
      rw [decide_eq_true rfl]
      refine iteT ⟨_, rfl, _, rfl, hs, ?_⟩
      rw [decide_eq_true rfl]
      exact k _ s1
    | @lst _ a b xs ys ha hb hl hz hs =>
      refine ⟨_, rfl, (by show 2 ≤ sizeLine; decide), fun tp htp => ?_⟩
      have s1 := same_upd (o := .tup [.ty "list", .ty "tuple"]) htp
      have ta : TyX K (upd H tp (.tup [.ty "list", .ty "tuple"])) (.ref a) (.type "list") := .base (.lst (s1 _ _ ha))
      have tb' : TyX K (upd H tp (.tup [.ty "list", .ty "tuple"])) (.ref b) (.type "list") := .base (.lst (s1 _ _ hb))
      have kl : kitB "list" "list" = some true := by decide +kernel
      have kt : kitB "list" "tuple" = some false := by decide +kernel
      refine ⟨.ref a, tp, _, .type "list", [.type "list", .type "tuple"], _, rfl, upd_same, .cons (.ty _) (.cons (.ty _) .nil), ta, any_tt kl kt, _, rfl, iteT ?_⟩
      have ha1 := s1 _ _ ha
      have hb1 := s1 _ _ hb
      generalize upd H tp (.tup [.ty "list", .ty "tuple"]) = H1 at s1 ta tb' ha1 hb1
      refine ⟨_, rfl, .ref b, .ty "list", _, _, _, rfl, .ty _, tb', kit_ty kl, _, rfl, .ref a, .ty "list", _, _, _, rfl, .ty _, ta, kit_ty kl, rfl, _, rfl, ?_⟩
      rw [decide_eq_true rfl]
      refine iteT ⟨_, rfl, .ref b, .ty "tuple", _, _, _, rfl, .ty _, tb', kit_ty kt, _, rfl, .ref a, .ty "tuple", _, _, _, rfl, .ty _, ta, kit_ty kt, rfl, ?_⟩
      refine ⟨_, rfl, _, rfl, ?_⟩
      rw [decide_eq_true rfl]
      refine iteT ⟨_, rfl, a, xs, rfl, .inl (SqL.of ha1), _, rfl, b, ys, rfl, .inl (SqL.of hb1), rfl, _, rfl, ?_⟩
      rw [hl, decide_eq_true rfl]
      refine iteT ⟨_, rfl, _, rfl, a, b, xs, ys, rfl, .inl ⟨SqL.of ha1, SqL.of hb1, fun D hD => ?_⟩⟩
      refine lc_pairsL hl (fun i H' => Same H1 H' ∧ H' D = some (.lst ((List.replicate i true).map V.bl))) ⟨same_upd hD, upd_same⟩ (fun i H' ⟨sA, _⟩ => ⟨SqL.of (sA _ _ ha1), SqL.of (sA _ _ hb1)⟩) ?_ ?_
      · rintro i u v T H' hu hv ⟨sA, gA⟩ hT
        have sT := same_upd (o := .tup [u, v]) hT
        refine ⟨T, _, rfl, SqT.of upd_same, rfl, _, _, rfl, _, _, rfl, rfl, rfl, ?_⟩
        dsimp only [tYes]
        rw [if_pos rfl]
        refine ⟨_, rfl, _, rfl, u, v, rfl, Alk.same (s1.trans (sA.trans sT)) (hs i u v hu hv), fun H2 s2 => ?_⟩
        refine ⟨_, s2 _ _ (sT _ _ gA), ?_, fun c o e => ?_, ?_⟩
        · rw [List.length_map, List.length_replicate]
          have : i < xs.length := (List.getElem?_eq_some_iff.mp hu).1
          exact small1000 (by omega)
        · rw [upd_ne (ne_of_none e hD)]
          exact s2 _ _ (sT _ _ (sA _ _ e))
        · rw [upd_same, List.replicate_succ', List.map_append]
          rfl
      · rintro H2 ⟨sA, gA⟩
        refine ⟨D, List.replicate xs.length true, rfl, SqL.of gA, ?_⟩
        rw [show (List.replicate xs.length true).all id = true by simp]
        exact k _ (s1.trans sA)
    | @tup _ a b xs ys ha hb hl hz hs =>
      refine ⟨_, rfl, (by show 2 ≤ sizeLine; decide), fun tp htp => ?_⟩
      have s1 := same_upd (o := .tup [.ty "list", .ty "tuple"]) htp
      have ta : TyX K (upd H tp (.tup [.ty "list", .ty "tuple"])) (.ref a) (.type "tuple") := .base (.tup (s1 _ _ ha))
      have tb' : TyX K (upd H tp (.tup [.ty "list", .ty "tuple"])) (.ref b) (.type "tuple") := .base (.tup (s1 _ _ hb))
      have kl : kitB "tuple" "list" = some false := by decide +kernel
      have kt : kitB "tuple" "tuple" = some true := by decide +kernel
      refine ⟨.ref a, tp, _, .type "tuple", [.type "list", .type "tuple"], _, rfl, upd_same, .cons (.ty _) (.cons (.ty _) .nil), ta, any_tt kl kt, _, rfl, iteT ?_⟩
      have ha1 := s1 _ _ ha
      have hb1 := s1 _ _ hb
      generalize upd H tp (.tup [.ty "list", .ty "tuple"]) = H1 at s1 ta tb' ha1 hb1
      refine ⟨_, rfl, .ref b, .ty "list", _, _, _, rfl, .ty _, tb', kit_ty kl, _, rfl, .ref a, .ty "list", _, _, _, rfl, .ty _, ta, kit_ty kl, rfl, _, rfl, ?_⟩
      rw [decide_eq_true rfl]
      refine iteT ⟨_, rfl, .ref b, .ty "tuple", _, _, _, rfl, .ty _, tb', kit_ty kt, _, rfl, .ref a, .ty "tuple", _, _, _, rfl, .ty _, ta, kit_ty kt, rfl, ?_⟩
      refine ⟨_, rfl, _, rfl, ?_⟩
      rw [decide_eq_true rfl]
      refine iteT ⟨_, rfl, a, xs, rfl, .inr (SqT.of ha1), _, rfl, b, ys, rfl, .inr (SqT.of hb1), rfl, _, rfl, ?_⟩
      rw [hl, decide_eq_true rfl]
      refine iteT ⟨_, rfl, _, rfl, a, b, xs, ys, rfl, .inr ⟨SqT.of ha1, SqT.of hb1, fun D hD => ?_⟩⟩
      refine lc_pairsT hl (fun i H' => Same H1 H' ∧ H' D = some (.lst ((List.replicate i true).map V.bl))) ⟨same_upd hD, upd_same⟩ (fun i H' ⟨sA, _⟩ => ⟨SqT.of (sA _ _ ha1), SqT.of (sA _ _ hb1)⟩) ?_ ?_
      · rintro i u v T H' hu hv ⟨sA, gA⟩ hT
        have sT := same_upd (o := .tup [u, v]) hT
        refine ⟨T, _, rfl, SqT.of upd_same, rfl, _, _, rfl, _, _, rfl, rfl, rfl, ?_⟩
        dsimp only [tYes]
        rw [if_pos rfl]
        refine ⟨_, rfl, _, rfl, u, v, rfl, Alk.same (s1.trans (sA.trans sT)) (hs i u v hu hv), fun H2 s2 => ?_⟩
        refine ⟨_, s2 _ _ (sT _ _ gA), ?_, fun c o e => ?_, ?_⟩
        · rw [List.length_map, List.length_replicate]
          have : i < xs.length := (List.getElem?_eq_some_iff.mp hu).1
          exact small1000 (by omega)
        · rw [upd_ne (ne_of_none e hD)]
          exact s2 _ _ (sT _ _ (sA _ _ e))
        · rw [upd_same, List.replicate_succ', List.map_append]
          rfl
      · rintro H2 ⟨sA, gA⟩
        refine ⟨D, List.replicate xs.length true, rfl, SqL.of gA, ?_⟩
        rw [show (List.replicate xs.length true).all id = true by simp]
        exact k _ (s1.trans sA)
end
end L2.K03
namespace L2.K03
open PySem PySem.Spec PyProof.Rows L2.EV
theorem got_ex {P : Program} {w : World} {K : PySem.W.Frag} {mg : Str → Option Value} {base : Heap} {f : Addr} {fd : FuncData} (F : FnP K "_law_exact" sEx f fd) (gE : mg "_law_exact" = some (.ref f)) (mIs : mg "isinstance" = none) (mL : mg "len" = none) (mA : mg "all" = none) (mZ : mg "zip" = none)
    (mLi : mg "list" = none) (mT : mg "tuple" = none) (mD : mg "dict" = none) (mB : mg "bool" = none) : ∀ n, Got P w K mg base (n + 1) "_law_exact" pEx (spEx n) := by
  have b : Binds K fd pEx [] := F.bindsN fun _ _ _ _ _ _ us hl => match us, hl with | [_, _], _ => rfl
  intro n
  induction n with
  | zero =>
    refine ⟨f, fd, ⟨fun vs H Q E h => ?_, fun A outer s H args us vs Q E _ _ _ _ h => ?_⟩, b, F.kp, gE⟩
    · obtain ⟨x, y, rfl, _⟩ := h
      rfl
    · obtain ⟨x, y, rfl, h, _⟩ := h
      cases h
  | succ n ih => exact ⟨f, fd, ok_ex_step F ih mIs mL mA mZ mLi mT mD mB, b, F.kp, gE⟩
end L2.K03
set_option Elab.async false
set_option linter.all false
set_option maxRecDepth 100000
set_option maxHeartbeats 4000000
namespace L2.K03
open PySem PySem.Spec PyProof.Rows L2.EV
/-! ### the form of a word -/
def wordB (x : Str) : Bool := decide (x.length ≤ 8) && (Txt.isascii x && (Txt.isalpha x && Txt.islower x))
theorem low_codes : ((List.range 26).map (· + 97)).all (fun c => decide (c < 128) && Unicode.isAlpha c && Unicode.isLower c && !(Unicode.isUpper c || Unicode.isTitle c)) = true := by decide +kernel
theorem low_code {c : Nat} (h : 97 ≤ c ∧ c ≤ 122) : c < 128 ∧ Unicode.isAlpha c = true ∧ Unicode.isLower c = true ∧ (Unicode.isUpper c || Unicode.isTitle c) = false := by
  have := List.all_eq_true.mp low_codes c (List.mem_map.mpr ⟨c - 97, List.mem_range.mpr (by omega), by omega⟩)
  simp only [Bool.and_eq_true, decide_eq_true_eq, Bool.not_eq_true'] at this
  exact ⟨this.1.1.1, this.1.1.2, this.1.2, this.2⟩
theorem Word.form {x : Str} (h : Word x) : wordB x = true := by
  have code : ∀ c ∈ x.cps, 97 ≤ c ∧ c ≤ 122 := fun c hc => h.2 c (by simpa using hc)
  have e0 : 0 < x.cps.size := h.1.1
  have a1 : Txt.isascii x = true := by
    unfold Txt.isascii
    exact Array.all_eq_true_iff_forall_mem.mpr fun c hc => decide_eq_true (low_code (code c hc)).1
  have a2 : Txt.isalpha x = true := by
    unfold Txt.isalpha
    rw [Bool.and_eq_true]
    exact ⟨decide_eq_true h.1.1, Array.all_eq_true_iff_forall_mem.mpr fun c hc => (low_code (code c hc)).2.1⟩
  have a3 : Txt.islower x = true := by
    unfold Txt.islower
    rw [Bool.and_eq_true]
    refine ⟨Array.any_eq_true.mpr ⟨0, e0, (low_code (code _ (Array.getElem_mem e0))).2.2.1⟩, ?_⟩
    rw [Bool.not_eq_true']
    refine Array.any_eq_false.mpr fun i hi => ?_
    rw [(low_code (code _ (Array.getElem_mem hi))).2.2.2]
    decide
  unfold wordB
  rw [a1, a2, a3, decide_eq_true h.1.2]
  rfl
abbrev sWF : Stmt := top 13
theorem scWF : FnScope ["value"] ["value"] (defScope sWF) := ⟨rfl, rfl, rfl, by decide +kernel, rfl, by decide +kernel, by decide +kernel⟩
def spWF (K : PySem.W.Frag) : Sp := fun vs H Q _ => ∃ v, vs = [v] ∧ ((∃ x, v = .str x ∧ x.length ≤ sizeLine ∧ Q (.bl (wordB x)) H) ∨ ∃ t, TyX K H v t ∧ PySem.W.kitOne K t (.type "str") = some false ∧ Q (.bl false) H)
section
variable {P : Program} {w : World} {K : PySem.W.Frag} {mg : Str → Option Value} {base : Heap} {f : Addr} {fd : FuncData}
theorem ok_wf {t8 : Tok} (F : FnP K "has_word_form" sWF f fd) (m8 : mg "LONGEST_WORD" = some (.int 8 t8)) (mIs : mg "isinstance" = none) (mL : mg "len" = none) (mS : mg "str" = none) : FnOk P w K mg base CX0 1 f fd ["value"] (spWF K) := by
  refine F.ok scWF (fun vs H Q E h => ?_) (fun cdv A outer s H vs Q E hr h => ?_)
  · obtain ⟨v, rfl, _⟩ := h
    rfl
  · obtain ⟨v, rfl, h⟩ := h
    refine ⟨_, PSs.nox (pss_cons (ps_if (PW.pt (pw_or (pt_not (pt_val (pe_callB call_isi (by rfl) mIs (by decide +kernel) (pa_cons (pv 0) (pa_cons (pe_bltn (v := .ty "str") (u := .type "str") (by rfl) mS (by decide +kernel) rfl) pa_nil)))))
        (pw_or1 (pt_cmpR op_gt (pe_callB call_len_str (by rfl) mL PySem.boot_len (pa_cons (pv 0) pa_nil)) (pe_glob (v := .int 8) (by rfl) m8 ⟨t8, rfl⟩ (by decide)) (nomark _))))) (pss_one (ps_ret pe_bl)) pss_nil)
      (pss_one (ps_ret (pe_and (pe_m0 PySem.F.slot_str_isascii PySem.F.type_str_isascii mt_isascii (pv 0))
        (pe_and (pe_m0 PySem.F.slot_str_isalpha PySem.F.type_str_isalpha mt_isalpha (pv 0))
          (pe_one (pe_m0 PySem.F.slot_str_islower PySem.F.type_str_islower mt_islower (pv 0)))))))), ?_⟩
    rcases h with ⟨x, rfl, hx, q⟩ | ⟨t, ty, kt, q⟩
    · refine ⟨_, rfl, _, .ty "str", _, _, true, rfl, .ty _, .base (.str x), kit_ty (by decide +kernel), true, rfl, iteF ?_⟩
      refine ⟨_, rfl, x, rfl, hx, _, _, rfl, rfl, _, rfl, ?_⟩
      by_cases h8 : x.length ≤ 8
      · rw [decide_eq_false (by omega)]
        have e : wordB x = (Txt.isascii x && (Txt.isalpha x && Txt.islower x)) := by
          unfold wordB
          rw [decide_eq_true h8]
          rfl
        rw [e] at q
        refine iteF ⟨_, rfl, ⟨x, rfl⟩, x, rfl, rfl, trivial, _, rfl, ?_⟩
        cases e1 : Txt.isascii x with
        | false => rw [e1] at q; exact iteF q
        | true =>
          rw [e1] at q
          refine iteT ⟨_, rfl, ⟨x, rfl⟩, x, rfl, rfl, trivial, _, rfl, ?_⟩
          cases e2 : Txt.isalpha x with
          | false => rw [e2] at q; exact iteF q
          | true =>
            rw [e2] at q
            exact iteT ⟨_, rfl, ⟨x, rfl⟩, x, rfl, rfl, trivial, q⟩
      · rw [decide_eq_true (by omega)]
        have e : wordB x = false := by
          unfold wordB
          rw [decide_eq_false h8]
          rfl
        rw [e] at q
        exact iteT q
    · exact ⟨_, rfl, v, .ty "str", _, _, false, rfl, .ty _, ty, kt, false, rfl, iteT (iteT q)⟩
end
end L2.K03
set_option Elab.async false
set_option linter.all false
set_option maxRecDepth 100000
set_option maxHeartbeats 4000000
namespace L2.K03
open PySem PySem.Spec PyProof.Rows L2.EV
/-! ### counts -/
abbrev sCnt : Stmt := top 11
theorem scCnt : FnScope ["value"] ["value"] (defScope sCnt) := ⟨rfl, rfl, rfl, by decide +kernel, rfl, by decide +kernel, by decide +kernel⟩
/-- the answer for a thing; where it is no number, its type tells -/
inductive Cnt (K : PySem.W.Frag) (H : Hp) : V → Bool → Prop
  | int (i : Int) : Cnt K H (.int i) (decide (0 ≤ i))
  | bl (b : Bool) : Cnt K H (.bl b) false
  | oth {v : V} {t : Value} : TyX K H v t → PySem.W.kitOne K t (.type "int") = some false → Cnt K H v false
def spCnt (K : PySem.W.Frag) : Sp := fun vs H Q _ => ∃ v r, vs = [v] ∧ Cnt K H v r ∧ Q (.bl r) H
section
variable {P : Program} {w : World} {K : PySem.W.Frag} {mg : Str → Option Value} {base : Heap} {f : Addr} {fd : FuncData}
theorem ok_cnt (F : FnP K "is_count" sCnt f fd) (mIs : mg "isinstance" = none) (mI : mg "int" = none) (mB : mg "bool" = none) : FnOk P w K mg base CX0 1 f fd ["value"] (spCnt K) := by
  refine F.ok scCnt (fun vs H Q E h => ?_) (fun cdv A outer s H vs Q E hr h => ?_)
  · obtain ⟨v, r, rfl, _⟩ := h
    rfl
  · obtain ⟨v, r, rfl, h, q⟩ := h
    refine ⟨_, PSs.nox (pss_one (ps_ret (pe_and (pe_callB call_isi (by rfl) mIs (by decide +kernel) (pa_cons (pv 0) (pa_cons (pe_bltn (v := .ty "int") (u := .type "int") (by rfl) mI (by decide +kernel) rfl) pa_nil)))
      (pe_and (pe_not (pe_callB call_isi (by rfl) mIs (by decide +kernel) (pa_cons (pv 0) (pa_cons (pe_bltn (v := .ty "bool") (u := .type "bool") (by rfl) mB (by decide +kernel) rfl) pa_nil))))
        (pe_one (pe_cmpR op_ge (pv 0) pe_int (nomark _))))))), ?_⟩
    cases h with
    | int i =>
      refine ⟨_, rfl, .int i, .ty "int", _, _, true, rfl, .ty _, .base (.int i), kit_ty (by decide +kernel), true, rfl, iteT ?_⟩
      exact ⟨_, rfl, .int i, .ty "bool", _, _, false, rfl, .ty _, .base (.int i), kit_ty (by decide +kernel), false, rfl, true, rfl, iteT ⟨_, rfl, _, _, rfl, rfl, q⟩⟩
    | bl b =>
      refine ⟨_, rfl, .bl b, .ty "int", _, _, true, rfl, .ty _, .base (.bl b), kit_ty (by decide +kernel), true, rfl, iteT ?_⟩
      exact ⟨_, rfl, .bl b, .ty "bool", _, _, true, rfl, .ty _, .base (.bl b), kit_ty (by decide +kernel), true, rfl, false, rfl, iteF q⟩
    | oth ty k => exact ⟨_, rfl, v, .ty "int", _, _, false, rfl, .ty _, ty, k, false, rfl, iteF q⟩
end
/-! ### tuples of a length -/
abbrev sTof : Stmt := top 12
theorem scTof : FnScope ["value", "length"] ["value", "length"] (defScope sTof) := ⟨rfl, rfl, rfl, by decide +kernel, rfl, by decide +kernel, by decide +kernel⟩
def spTof (K : PySem.W.Frag) : Sp := fun vs H Q _ => ∃ (v : V) (n : Nat), vs = [v, .int (n : Int)] ∧ ((∃ a xs, v = .ref a ∧ H a = some (.tup xs) ∧ Q (.bl (decide (xs.length = n))) H) ∨ ∃ t, TyX K H v t ∧ PySem.W.kitOne K t (.type "tuple") = some false ∧ Q (.bl false) H)
section
variable {P : Program} {w : World} {K : PySem.W.Frag} {mg : Str → Option Value} {base : Heap} {f : Addr} {fd : FuncData}
theorem ok_tof (F : FnP K "is_tuple_of" sTof f fd) (mIs : mg "isinstance" = none) (mT : mg "tuple" = none) (mL : mg "len" = none) : FnOk P w K mg base CX0 1 f fd ["value", "length"] (spTof K) := by
  refine F.ok scTof (fun vs H Q E h => ?_) (fun cdv A outer s H vs Q E hr h => ?_)
  · obtain ⟨v, n, rfl, _⟩ := h
    rfl
  · obtain ⟨v, n, rfl, h⟩ := h
    refine ⟨_, PSs.nox (pss_one (ps_ret (pe_and (pe_callB call_isi (by rfl) mIs (by decide +kernel) (pa_cons (pv 0) (pa_cons (pe_bltn (v := .ty "tuple") (u := .type "tuple") (by rfl) mT (by decide +kernel) rfl) pa_nil)))
      (pe_one (pe_cmpR op_eq (pe_callB call_len_seq (by rfl) mL PySem.boot_len (pa_cons (pv 0) pa_nil)) (pv 1) (nomark _)))))), ?_⟩
    rcases h with ⟨a, xs, rfl, ha, q⟩ | ⟨t, ty, k, q⟩
    · refine ⟨_, rfl, .ref a, .ty "tuple", _, _, true, rfl, .ty _, .base (.tup ha), kit_ty (by decide +kernel), true, rfl, iteT ?_⟩
      refine ⟨_, rfl, a, xs, rfl, .inr (SqT.of ha), _, rfl, rfl, ?_⟩
      have e : decide (V.int (xs.length : Int) = V.int (n : Int)) = decide (xs.length = n) := by
        by_cases h : xs.length = n
        · rw [h, decide_eq_true rfl, decide_eq_true rfl]
        · rw [decide_eq_false h, decide_eq_false fun z => by injection z with z; omega]
      rw [e]
      exact q
    · exact ⟨_, rfl, v, .ty "tuple", _, _, false, rfl, .ty _, ty, k, false, rfl, iteF q⟩
end
end L2.K03
set_option Elab.async false
set_option linter.all false
set_option maxRecDepth 100000
set_option maxHeartbeats 4000000
namespace L2.K03
open PySem PySem.Spec PyProof.Rows L2.EV
/-! ### the form of an effect -/
/-- how many numbers stand behind a kind -/
def behind (z : Str) : Option Nat := if z = ("coins" : Str) then some 1 else if z = ("fill" : Str) then some 2 else none
/-- the table NUMBERS_BEHIND, written -/
structure Nb (K : PySem.W.Frag) (w : World) (mg : Str → Option Value) : Prop where
  ex : ∃ d es n, mg "NUMBERS_BEHIND" = some (.ref d) ∧ KDict K w d es n ∧ (∀ z, behind z = none → PySem.W.nsIn K d z = some none) ∧ ∀ z k, behind z = some k → ∃ t, PySem.W.nsIn K d z = some (some (.int (k : Int) t))
/-- an item: is it a count of at most 3 -/
inductive Num (K : PySem.W.Frag) (H : Hp) : V → Bool → Prop
  | int (i : Int) : Num K H (.int i) (decide (0 ≤ i) && decide (i ≤ 3))
  | bl (b : Bool) : Num K H (.bl b) false
  | oth {v : V} {t : Value} : (∀ H', Same H H' → TyX K H' v t) → PySem.W.kitOne K t (.type "int") = some false → Num K H v false
theorem Num.same {K : PySem.W.Frag} {H H' : Hp} {v : V} {r : Bool} (h : Num K H v r) (s : Same H H') : Num K H' v r := by
  cases h with
  | int i => exact .int i
  | bl b => exact .bl b
  | oth f k => exact .oth (fun H2 s2 => f H2 (s.trans s2)) k
inductive EffF (K : PySem.W.Frag) (H : Hp) : V → Bool → Prop
  | no {v : V} {t : Value} : TyX K H v t → PySem.W.kitOne K t (.type "tuple") = some false → EffF K H v false
  | nil {a : Addr} : H a = some (.tup []) → EffF K H (.ref a) false
  | odd {a : Addr} {x : V} {xs : List V} {t : Value} : H a = some (.tup (x :: xs)) → TyX K H x t → PySem.W.kitOne K t (.type "str") = some false → EffF K H (.ref a) false
  | word {a : Addr} {z : Str} {xs : List V} : H a = some (.tup (.str z :: xs)) → behind z = none → EffF K H (.ref a) false
  | len {a : Addr} {z : Str} {xs : List V} {k : Nat} : H a = some (.tup (.str z :: xs)) → behind z = some k → xs.length ≠ k → EffF K H (.ref a) false
  | some {a : Addr} {z : Str} {xs : List V} {rs : List Bool} : H a = some (.tup (.str z :: xs)) → behind z = some xs.length → rs.length = xs.length → (∀ (i : Nat) (x : V) (r : Bool), xs[i]? = some x → rs[i]? = some r → Num K H x r) → EffF K H (.ref a) (rs.all id)
theorem cut_tail (x : V) (xs : List V) : cutV (x :: xs) (Option.some 1) Option.none = xs := by
  unfold cutV
  have e : HT.sIx (x :: xs).length 0 (Option.some (1 : Int)) = 1 := by
    have := HT.sIx_nat (x :: xs).length 0 1
    rw [show ((1 : Nat) : Int) = 1 from rfl] at this
    rw [this, List.length_cons]
    omega
  rw [e, HT.sIx_none]
  exact List.take_of_length_le (by simp)
abbrev sEF : Stmt := top 14
abbrev nEF : List Str := ["value", "number"]
theorem scEF : FnScope nEF ["value"] (defScope sEF) := ⟨rfl, rfl, rfl, by decide +kernel, rfl, by decide +kernel, by decide +kernel⟩
def spEF (K : PySem.W.Frag) : Sp := fun vs H Q _ => ∃ v r, vs = [v] ∧ EffF K H v r ∧ ∀ H', Same H H' → Q (.bl r) H'
section
variable {P : Program} {w : World} {K : PySem.W.Frag} {mg : Str → Option Value} {base : Heap} {f : Addr} {fd : FuncData}
theorem ok_ef {t3 : Tok} (F : FnP K "has_effect_form" sEF f fd) (GC : Got P w K mg base 1 "is_count" ["value"] (spCnt K)) (B : Nb K w mg) (m3 : mg "MOST_COINS" = some (.int 3 t3)) (mIs : mg "isinstance" = none) (mL : mg "len" = none) (mS : mg "str" = none) (mT : mg "tuple" = none) (mA : mg "all" = none) :
    FnOk P w K mg base CX0 2 f fd ["value"] (spEF K) := by
  obtain ⟨d, es, nn, gD, KD, kNo, kYes⟩ := B.ex
  refine F.ok scEF (fun vs H Q E h => ?_) (fun cdv A outer s H vs Q E hr h => ?_)
  · obtain ⟨v, r, rfl, _⟩ := h
    rfl
  · obtain ⟨v, r, rfl, h, q⟩ := h
    refine ⟨_, PSs.nox (pss_cons (ps_if (PW.pt (pw_or (pt_not (pt_val (pe_callB call_isi (by rfl) mIs (by decide +kernel) (pa_cons (pv 0) (pa_cons (pe_bltn (v := .ty "tuple") (u := .type "tuple") (by rfl) mT (by decide +kernel) rfl) pa_nil)))))
          (pw_or (pt_not (pt_truth (pv 0) (fun _ => rfl)))
          (pw_or1 (pt_not (pt_val (pe_callB call_isi (by rfl) mIs (by decide +kernel) (pa_cons (pe_ix ix_tup (pv 0) pe_int (fun _ _ => rfl)) (pa_cons (pe_bltn (v := .ty "str") (u := .type "str") (by rfl) mS (by decide +kernel) rfl) pa_nil)))))))))
        (pss_one (ps_ret pe_bl)) pss_nil)
      (pss_cons (ps_if (PW.pt (pw_or (pt_cmpR (op_notIn_kd KD) (pe_ix ix_tup (pv 0) pe_int (fun _ _ => rfl)) (pe_glob (v := .ref d) (by rfl) gD rfl (by decide)) (by rfl))
          (pw_or1 (pt_cmpR op_ne (pe_callB call_len_seq (by rfl) mL PySem.boot_len (pa_cons (pv 0) pa_nil))
            (pe_op op_add (pe_ix ix_kdict (pe_glob (v := .ref d) (by rfl) gD rfl (by decide)) (pe_ix ix_tup (pv 0) pe_int (fun _ _ => rfl)) (fun _ _ => rfl)) pe_int) (nomark _)))))
        (pss_one (ps_ret pe_bl)) pss_nil)
      (pss_one (ps_ret (pe_callB (cr_all rfl) (by rfl) mA (by decide +kernel) (pa_cons
        (pe_lc (own := [("number", 1)]) (g := gName 1) (tt := tYes) (by rfl) scEF.nd (pi_tup (pe_slice sl_tup (pv 0) (po_some pe_int) po_none)) (blkOk_by (own := [("number", 1)]) (N := nEF) (sc := defScope sEF) (by decide +kernel))
          (fun _ _ _ _ _ => pg_name (i := 1) scEF.nd rfl (Or.inl rfl)) (fun _ _ _ _ _ => pts_nil)
          (fun _ _ _ _ _ => pe_and (pe_got GC hr (pa_cons (pv 1) pa_nil)) (pe_one (pe_cmpR op_le (pv 1) (pe_glob (v := .int 3) (by rfl) m3 ⟨t3, rfl⟩ (by decide)) (nomark _))))) pa_nil)))))), ?_⟩
    have at0 : ∀ (x : V) (xs : List V), atI (x :: xs) 0 = Option.some x := fun x xs => atI_nat (j := 0) rfl
    have isT : ∀ {a : Addr} {ys : List V}, H a = Option.some (.tup ys) → TyX K H (.ref a) (.type "tuple") := fun h => .base (.tup h)
    cases h with
    | no ty k => exact ⟨_, rfl, v, .ty "tuple", _, _, false, rfl, .ty _, ty, k, false, rfl, iteT (iteT (q _ (Same.refl H)))⟩
    | @nil a ha => exact ⟨_, rfl, .ref a, .ty "tuple", _, _, true, rfl, .ty _, isT ha, kit_ty (by decide +kernel), true, rfl, iteF ⟨_, rfl, false, .inr (.inl ⟨[], SqT.of ha, rfl⟩), iteT (iteT (q _ (Same.refl H)))⟩⟩
    | @odd a x xs t ha ty k =>
      exact ⟨_, rfl, .ref a, .ty "tuple", _, _, true, rfl, .ty _, isT ha, kit_ty (by decide +kernel), true, rfl, iteF ⟨_, rfl, true, .inr (.inl ⟨_, SqT.of ha, rfl⟩), iteF
        ⟨_, rfl, a, _, _, x, rfl, rfl, SqT.of ha, at0 x xs, x, .ty "str", _, _, false, rfl, .ty _, ty, k, false, rfl, iteT (q _ (Same.refl H))⟩⟩⟩
    | @word a z xs ha hz =>
      exact ⟨_, rfl, .ref a, .ty "tuple", _, _, true, rfl, .ty _, isT ha, kit_ty (by decide +kernel), true, rfl, iteF ⟨_, rfl, true, .inr (.inl ⟨_, SqT.of ha, rfl⟩), iteF
        ⟨_, rfl, a, _, _, .str z, rfl, rfl, SqT.of ha, at0 _ xs, .str z, .ty "str", _, _, true, rfl, .ty _, .base (.str z), kit_ty (by decide +kernel), true, rfl, iteF
        ⟨_, rfl, a, _, _, .str z, rfl, rfl, SqT.of ha, at0 _ xs, z, Option.none, rfl, rfl, kNo z hz, _, rfl, iteT (iteT (q _ (Same.refl H)))⟩⟩⟩⟩
    | @len a z xs k ha hz hl =>
      obtain ⟨tk, hns⟩ := kYes z k hz
      refine ⟨_, rfl, .ref a, .ty "tuple", _, _, true, rfl, .ty _, isT ha, kit_ty (by decide +kernel), true, rfl, iteF ⟨_, rfl, true, .inr (.inl ⟨_, SqT.of ha, rfl⟩), iteF
        ⟨_, rfl, a, _, _, .str z, rfl, rfl, SqT.of ha, at0 _ xs, .str z, .ty "str", _, _, true, rfl, .ty _, .base (.str z), kit_ty (by decide +kernel), true, rfl, iteF
        ⟨_, rfl, a, _, _, .str z, rfl, rfl, SqT.of ha, at0 _ xs, z, _, rfl, rfl, hns, _, rfl, iteF
        ⟨_, rfl, a, _, rfl, .inr (SqT.of ha), _, rfl, a, _, _, .str z, rfl, rfl, SqT.of ha, at0 _ xs, d, z, .int (k : Int), rfl, rfl, ⟨es, nn, _, KD.at_, KD.lit, hns, ⟨tk, rfl⟩⟩, _, _, rfl, rfl, rfl, _, rfl, ?_⟩⟩⟩⟩⟩
      have e : decide (V.int (((V.str z :: xs).length : Nat) : Int) = V.int ((k : Int) + 1)) = false := decide_eq_false fun e => by
        injection e with e
        rw [List.length_cons] at e
        omega
      rw [e]
      exact iteT (q _ (Same.refl H))
    | @some a z xs rs ha hz hl hs =>
      obtain ⟨tk, hns⟩ := kYes z _ hz
      refine ⟨_, rfl, .ref a, .ty "tuple", _, _, true, rfl, .ty _, isT ha, kit_ty (by decide +kernel), true, rfl, iteF ⟨_, rfl, true, .inr (.inl ⟨_, SqT.of ha, rfl⟩), iteF
        ⟨_, rfl, a, _, _, .str z, rfl, rfl, SqT.of ha, at0 _ xs, .str z, .ty "str", _, _, true, rfl, .ty _, .base (.str z), kit_ty (by decide +kernel), true, rfl, iteF
        ⟨_, rfl, a, _, _, .str z, rfl, rfl, SqT.of ha, at0 _ xs, z, _, rfl, rfl, hns, _, rfl, iteF
        ⟨_, rfl, a, _, rfl, .inr (SqT.of ha), _, rfl, a, _, _, .str z, rfl, rfl, SqT.of ha, at0 _ xs, d, z, .int (xs.length : Int), rfl, rfl, ⟨es, nn, _, KD.at_, KD.lit, hns, ⟨tk, rfl⟩⟩, _, _, rfl, rfl, rfl, _, rfl, ?_⟩⟩⟩⟩⟩
      have e : decide (V.int (((V.str z :: xs).length : Nat) : Int) = V.int ((xs.length : Int) + 1)) = true := decide_eq_true (by rw [List.length_cons]; congr 1)
      rw [e]
      refine iteF ?_
      have x2 : xs.length ≤ 2 := by
        unfold behind at hz
        split at hz
        · have := Option.some.inj hz
          omega
        · split at hz
          · have := Option.some.inj hz
            omega
          · cases hz
      refine ⟨_, rfl, _, rfl, a, _, rfl, SqT.of ha, ?_, fun l hl2 => ?_⟩
      · intro hh
        have h1 := hh.1
        rw [show HT.sIx (V.str z :: xs).length 0 (Option.some (1 : Int)) = 1 by
          have := HT.sIx_nat (V.str z :: xs).length 0 1
          rw [show ((1 : Nat) : Int) = 1 from rfl] at this
          rw [this, List.length_cons]
          omega] at h1
        cases h1
      · rw [cut_tail]
        have s1 := same_upd (o := .tup xs) hl2
        have g1 : upd H l (.tup xs) l = Option.some (.tup xs) := upd_same
        generalize upd H l (.tup xs) = H1 at s1 g1
        refine ⟨l, rfl, ⟨_, SqT.of g1⟩, fun D hD => ?_⟩
        refine lc_tup (K := K) (a := l) (xs := xs) (fun i H' => Same H1 H' ∧ H' D = Option.some (.lst ((rs.take i).map V.bl))) ⟨same_upd hD, upd_same⟩ (fun i H' _ ⟨sA, _⟩ => SqT.of (sA _ _ g1)) ?_ ?_
        · rintro i x H' hx ⟨sA, gA⟩
          have hi : i < xs.length := (List.getElem?_eq_some_iff.mp hx).1
          have hr : rs[i]? = Option.some (rs[i]'(by omega)) := List.getElem?_eq_getElem _
          have hN := (hs i x _ hx hr).same (s1.trans sA)
          generalize rs[i]'(by omega) = r at hr hN
          have fin : ∃ acc, H' D = Option.some (.lst acc) ∧ acc.length < sizeLine ∧ (Same H1 (upd H' D (.lst (acc ++ [V.bl r]))) ∧ (upd H' D (.lst (acc ++ [V.bl r]))) D = Option.some (.lst ((rs.take (i + 1)).map V.bl))) := by
            refine ⟨_, gA, ?_, fun c o e => ?_, ?_⟩
            · rw [List.length_map]
              exact small1000 (Nat.le_trans (List.length_take_le _ _) (by omega))
            · rw [upd_ne (ne_of_none e hD)]
              exact sA _ _ e
            · rw [upd_same, List.take_succ, hr, List.map_append]
              rfl
          refine ⟨rfl, ?_⟩
          dsimp only [tYes]
          rw [if_pos rfl]
          cases hN with
          | int j =>
            refine ⟨_, rfl, .int j, _, rfl, .int j, _, rfl, ?_⟩
            by_cases h0 : 0 ≤ j
            · rw [decide_eq_true h0] at fin ⊢
              exact iteT ⟨_, rfl, _, _, rfl, rfl, fin⟩
            · rw [decide_eq_false h0] at fin ⊢
              exact iteF fin
          | bl b => exact ⟨_, rfl, .bl b, _, rfl, .bl b, _, rfl, iteF fin⟩
          | oth ty k => exact ⟨_, rfl, x, _, rfl, .oth (ty _ (Same.refl _)) k, _, rfl, iteF fin⟩
        · rintro H2 ⟨sA, gA⟩
          rw [← hl, List.take_length] at gA
          exact ⟨D, rs, rfl, SqL.of gA, q _ (s1.trans sA)⟩
end
end L2.K03
set_option Elab.async false
set_option linter.all false
set_option maxRecDepth 100000
set_option maxHeartbeats 4000000
namespace L2.K03
open PySem PySem.Spec PyProof.Rows L2.EV
/-! ### the form of a manner, of a book -/
inductive WdF (K : PySem.W.Frag) (H : Hp) : V → Bool → Prop
  | str {x : Str} : x.length ≤ sizeLine → WdF K H (.str x) (wordB x)
  | oth {v : V} {t : Value} : (∀ H', Same H H' → TyX K H' v t) → PySem.W.kitOne K t (.type "str") = some false → WdF K H v false
theorem WdF.same {K : PySem.W.Frag} {H H' : Hp} {v : V} {r : Bool} (h : WdF K H v r) (s : Same H H') : WdF K H' v r := by
  cases h with
  | str hx => exact .str hx
  | oth f k => exact .oth (fun H2 s2 => f H2 (s.trans s2)) k
theorem WdF.sp {K : PySem.W.Frag} {H : Hp} {v : V} {r : Bool} {Q : VK} (h : WdF K H v r) (q : Q (.bl r) H) : spWF K [v] H Q E0 := by
  cases h with
  | @str x hx => exact ⟨_, rfl, .inl ⟨x, rfl, hx, q⟩⟩
  | @oth _ t f k => exact ⟨v, rfl, .inr ⟨t, f H (Same.refl H), k, q⟩⟩
/-- all of xs by form, the answers rs -/
def WdsF (K : PySem.W.Frag) (H : Hp) (xs : List V) (rs : List Bool) : Prop := rs.length = xs.length ∧ ∀ (i : Nat) (x : V) (r : Bool), xs[i]? = some x → rs[i]? = some r → WdF K H x r
theorem WdsF.same {K : PySem.W.Frag} {H H' : Hp} {xs : List V} {rs : List Bool} (h : WdsF K H xs rs) (s : Same H H') : WdsF K H' xs rs := ⟨h.1, fun i x r a b => (h.2 i x r a b).same s⟩
/-- one step of a list of answers -/
theorem ans_step {H1 H' : Hp} {D : Addr} {rs : List Bool} {i : Nat} {r : Bool} (hD : H1 D = none) (sA : Same H1 H') (gA : H' D = some (.lst ((rs.take i).map V.bl))) (hr : rs[i]? = some r) (hn : rs.length ≤ 900) :
    ∃ acc, H' D = some (.lst acc) ∧ acc.length < sizeLine ∧ (Same H1 (upd H' D (.lst (acc ++ [V.bl r]))) ∧ (upd H' D (.lst (acc ++ [V.bl r]))) D = some (.lst ((rs.take (i + 1)).map V.bl))) := by
  refine ⟨_, gA, ?_, fun c o e => ?_, ?_⟩
  · rw [List.length_map]
    exact small1000 (Nat.le_trans (List.length_take_le' _ _) (by omega))
  · rw [upd_ne (ne_of_none e hD)]
    exact sA _ _ e
  · rw [upd_same, List.take_succ, hr, List.map_append]
    rfl
theorem at_of_len {α β : Type} {xs : List α} {rs : List β} (h : rs.length = xs.length) {i : Nat} {x : α} (hx : xs[i]? = some x) : ∃ r, rs[i]? = some r := by
  have hi : i < xs.length := (List.getElem?_eq_some_iff.mp hx).1
  exact ⟨_, List.getElem?_eq_getElem (by omega)⟩
abbrev sBF : Stmt := top 16
abbrev nBF : List Str := ["value", "word"]
theorem scBF : FnScope nBF ["value"] (defScope sBF) := ⟨rfl, rfl, rfl, by decide +kernel, rfl, by decide +kernel, by decide +kernel⟩
inductive BookF (K : PySem.W.Frag) (H : Hp) : V → Bool → Prop
  | no {v : V} {t : Value} : TyX K H v t → PySem.W.kitOne K t (.type "list") = some false → BookF K H v false
  | lst {a : Addr} {xs : List V} {rs : List Bool} : H a = some (.lst xs) → xs.length ≤ 900 → WdsF K H xs rs → BookF K H (.ref a) (rs.all id)
def spBF (K : PySem.W.Frag) : Sp := fun vs H Q _ => ∃ v r, vs = [v] ∧ BookF K H v r ∧ ∀ H', Same H H' → Q (.bl r) H'
section
variable {P : Program} {w : World} {K : PySem.W.Frag} {mg : Str → Option Value} {base : Heap} {f : Addr} {fd : FuncData}
theorem ok_bf (F : FnP K "has_book_form" sBF f fd) (GW : Got P w K mg base 1 "has_word_form" ["value"] (spWF K)) (mIs : mg "isinstance" = none) (mLi : mg "list" = none) (mA : mg "all" = none) : FnOk P w K mg base CX0 2 f fd ["value"] (spBF K) := by
  refine F.ok scBF (fun vs H Q E h => ?_) (fun cdv A outer s H vs Q E hr h => ?_)
  · obtain ⟨v, r, rfl, _⟩ := h
    rfl
  · obtain ⟨v, r, rfl, h, q⟩ := h
    refine ⟨_, PSs.nox (pss_one (ps_ret (pe_and (pe_callB call_isi (by rfl) mIs (by decide +kernel) (pa_cons (pv 0) (pa_cons (pe_bltn (v := .ty "list") (u := .type "list") (by rfl) mLi (by decide +kernel) rfl) pa_nil)))
      (pe_one (pe_callB (cr_all rfl) (by rfl) mA (by decide +kernel) (pa_cons
        (pe_lc (own := [("word", 1)]) (g := gName 1) (tt := tYes) (by rfl) scBF.nd (pi_list (pv 0)) (blkOk_by (own := [("word", 1)]) (N := nBF) (sc := defScope sBF) (by decide +kernel))
          (fun _ _ _ _ _ => pg_name (i := 1) scBF.nd rfl (Or.inl rfl)) (fun _ _ _ _ _ => pts_nil) (fun _ _ _ _ _ => pe_got GW hr (pa_cons (pv 1) pa_nil))) pa_nil)))))), ?_⟩
    cases h with
    | no ty k => exact ⟨_, rfl, v, .ty "list", _, _, false, rfl, .ty _, ty, k, false, rfl, iteF (q _ (Same.refl H))⟩
    | @lst a xs rs ha hn hs =>
      refine ⟨_, rfl, .ref a, .ty "list", _, _, true, rfl, .ty _, .base (.lst ha), kit_ty (by decide +kernel), true, rfl, iteT ?_⟩
      refine ⟨_, rfl, a, rfl, ⟨_, SqL.of ha⟩, fun D hD => ?_⟩
      refine lc_list (K := K) (a := a) (xs := xs) (fun i H' => Same H H' ∧ H' D = some (.lst ((rs.take i).map V.bl))) ⟨same_upd hD, upd_same⟩ (fun i H' _ ⟨sA, _⟩ => SqL.of (sA _ _ ha)) ?_ ?_
      · rintro i x H' hx ⟨sA, gA⟩
        obtain ⟨r, hr'⟩ := at_of_len hs.1 hx
        refine ⟨rfl, ?_⟩
        dsimp only [tYes]
        rw [if_pos rfl]
        refine ⟨_, rfl, ?_⟩
        dsimp only [tNil]
        exact ((hs.2 i x r hx hr').same sA).sp (ans_step hD sA gA hr' (by rw [hs.1]; exact hn))
      · rintro H2 ⟨sA, gA⟩
        rw [← hs.1, List.take_length] at gA
        exact ⟨D, rs, rfl, SqL.of gA, q _ sA⟩
end
abbrev sMF : Stmt := top 15
theorem scMF : FnScope nBF ["value"] (defScope sMF) := ⟨rfl, rfl, rfl, by decide +kernel, rfl, by decide +kernel, by decide +kernel⟩
inductive ManF (K : PySem.W.Frag) (H : Hp) : V → Bool → Prop
  | no {v : V} {t : Value} : TyX K H v t → PySem.W.kitOne K t (.type "tuple") = some false → ManF K H v false
  | len {a : Addr} {xs : List V} : H a = some (.tup xs) → xs.length ≠ 4 → ManF K H (.ref a) false
  | eff {a : Addr} {x y z e : V} : H a = some (.tup [x, y, z, e]) → EffF K H e false → ManF K H (.ref a) false
  | some {a : Addr} {x y z e : V} {rs : List Bool} : H a = some (.tup [x, y, z, e]) → EffF K H e true → WdsF K H [x, y, z] rs → ManF K H (.ref a) (rs.all id)
def spMF (K : PySem.W.Frag) : Sp := fun vs H Q _ => ∃ v r, vs = [v] ∧ ManF K H v r ∧ ∀ H', Same H H' → Q (.bl r) H'
theorem cut3 (x y z e : V) : cutV [x, y, z, e] none (some 3) = [x, y, z] := rfl
section
variable {P : Program} {w : World} {K : PySem.W.Frag} {mg : Str → Option Value} {base : Heap} {f : Addr} {fd : FuncData}
theorem ok_mf (F : FnP K "has_manner_form" sMF f fd) (GT : Got P w K mg base 1 "is_tuple_of" ["value", "length"] (spTof K)) (GE : Got P w K mg base 2 "has_effect_form" ["value"] (spEF K)) (GW : Got P w K mg base 1 "has_word_form" ["value"] (spWF K)) (mA : mg "all" = none) :
    FnOk P w K mg base CX0 3 f fd ["value"] (spMF K) := by
  refine F.ok scMF (fun vs H Q E h => ?_) (fun cdv A outer s H vs Q E hr h => ?_)
  · obtain ⟨v, r, rfl, _⟩ := h
    rfl
  · obtain ⟨v, r, rfl, h, q⟩ := h
    refine ⟨_, PSs.nox (pss_cons (ps_if (PW.pt (pw_or (pt_not (pt_val (pe_got GT hr (pa_cons (pv 0) (pa_cons pe_int pa_nil))))) (pw_or1 (pt_not (pt_val (pe_got GE hr (pa_cons (pe_ix ix_tup (pv 0) pe_int (fun _ _ => rfl)) pa_nil))))))) (pss_one (ps_ret pe_bl)) pss_nil)
      (pss_one (ps_ret (pe_callB (cr_all rfl) (by rfl) mA (by decide +kernel) (pa_cons
        (pe_lc (own := [("word", 1)]) (g := gName 1) (tt := tYes) (by rfl) scMF.nd (pi_tup (pe_slice sl_tup (pv 0) po_none (po_some pe_int))) (blkOk_by (own := [("word", 1)]) (N := nBF) (sc := defScope sMF) (by decide +kernel))
          (fun _ _ _ _ _ => pg_name (i := 1) scMF.nd rfl (Or.inl rfl)) (fun _ _ _ _ _ => pts_nil) (fun _ _ _ _ _ => pe_got GW hr (pa_cons (pv 1) pa_nil))) pa_nil))))), ?_⟩
    cases h with
    | no ty k => exact ⟨_, rfl, v, 4, rfl, .inr ⟨_, ty, k, false, rfl, iteT (iteT (q _ (Same.refl H)))⟩⟩
    | @len a xs ha hl => exact ⟨_, rfl, .ref a, 4, rfl, .inl ⟨a, xs, rfl, ha, _, rfl, by rw [decide_eq_false hl]; exact iteT (iteT (q _ (Same.refl H)))⟩⟩
    | @eff a x y z e ha he =>
      refine ⟨_, rfl, .ref a, 4, rfl, .inl ⟨a, _, rfl, ha, _, rfl, iteF ?_⟩⟩
      exact ⟨_, rfl, a, _, _, e, rfl, rfl, SqT.of ha, rfl, e, false, rfl, he, fun H' s => ⟨false, rfl, iteT (q _ s)⟩⟩
    | @some a x y z e rs ha he hs =>
      refine ⟨_, rfl, .ref a, 4, rfl, .inl ⟨a, _, rfl, ha, _, rfl, iteF ?_⟩⟩
      refine ⟨_, rfl, a, _, _, e, rfl, rfl, SqT.of ha, rfl, e, true, rfl, he, fun H1 s1 => ⟨true, rfl, iteF ?_⟩⟩
      refine ⟨_, rfl, _, rfl, a, _, rfl, SqT.of (s1 _ _ ha), ?_, fun l hl2 => ?_⟩
      · intro hh
        exact absurd (show HT.sIx 4 4 (Option.some 3) = 4 from hh.2) (by decide)
      · rw [cut3]
        have s2 := same_upd (o := .tup [x, y, z]) hl2
        have g2 : upd H1 l (.tup [x, y, z]) l = Option.some (.tup [x, y, z]) := upd_same
        generalize upd H1 l (.tup [x, y, z]) = H2 at s2 g2
        have hs2 := hs.same (s1.trans s2)
        refine ⟨l, rfl, ⟨_, SqT.of g2⟩, fun D hD => ?_⟩
        refine lc_tup (K := K) (a := l) (xs := [x, y, z]) (fun i H' => Same H2 H' ∧ H' D = Option.some (.lst ((rs.take i).map V.bl))) ⟨same_upd hD, upd_same⟩ (fun i H' _ ⟨sA, _⟩ => SqT.of (sA _ _ g2)) ?_ ?_
        · rintro i u H' hu ⟨sA, gA⟩
          obtain ⟨r, hr'⟩ := at_of_len hs2.1 hu
          refine ⟨rfl, ?_⟩
          dsimp only [tYes]
          rw [if_pos rfl]
          refine ⟨_, rfl, ?_⟩
          dsimp only [tNil]
          exact ((hs2.2 i u r hu hr').same sA).sp (ans_step hD sA gA hr' (by rw [hs2.1]; show 3 ≤ 900; decide))
        · rintro H3 ⟨sA, gA⟩
          rw [← hs2.1, List.take_length] at gA
          exact ⟨D, rs, rfl, SqL.of gA, q _ (s1.trans (s2.trans sA))⟩
end
end L2.K03
set_option Elab.async false
set_option linter.all false
set_option maxRecDepth 100000
set_option maxHeartbeats 4000000
namespace L2.EV
open PySem PySem.Spec PyProof.Rows L2
/-! ### a set filled from a list: what the elements are is left open -/
/-- T i: what is said of the set at S behind i elements; h0: what was there ahead -/
structure Bag (prog : Program) (w : World) (A : Around) (S : Addr) (h0 : Heap) (vs : Nat → Value → Prop) (n : Nat) (T : Nat → Heap → Prop) : Prop where
  stay : ∀ i h h', T i h → (∀ o, h.get? S = some o → h'.get? S = some o) → (∀ b o, h0.get? b = some o → h'.get? b = some o) → T i h'
  put : ∀ (i : Nat) (v : Value) (s : Shared) (E : Value → Shared → Prop) (Q : Bool → Shared → Prop), i < n → vs i v → T i s.heap → (∀ b o, h0.get? b = some o → s.heap.get? b = some o) →
    (∀ (c : Bool) (h' : Heap) (tk : Nat), s.toks ≤ tk → Heap.SameBut S s.heap h' → T (i + 1) h' → Q c { s with heap := h', toks := tk }) → wpAny (model prog w) A (setAdd S v) Q E s
section
variable {prog : Program} {w : World} {A : Around} {R : Result → Shared → Prop} {I S : Addr} {fp wr : List Addr} {G : Array GenState → Array GenState → Prop} {n : Nat} {Pv : Nat → Value → Prop} {St : Nat → Shared → Prop} {h0 : Heap} {T : Nat → Heap → Prop}
theorem bag_loop (W : WalksS prog w A.in1 I fp wr G n Pv St) (hS : S ∉ fp) (B : Bag prog w A.in1 S h0 Pv n T) (hn : h0.get? S = none) (hw : ∀ b ∈ wr, h0.get? b = none) : ∀ (m i : Nat) (s : Shared), i + m = n → St i s → T i s.heap → (∀ b o, h0.get? b = some o → s.heap.get? b = some o) →
    (∀ s', Moved (S :: wr) G s s' → T n s'.heap → (∀ b o, h0.get? b = some o → s'.heap.get? b = some o) → R (.ok (.ret .none)) s') → codeAny (model prog w) A (.builtin "set.update.loop" ⟨[.ref S, .ref I], []⟩) R s := by
  have off : S ∉ wr := fun z => hS (W.sub _ z)
  have wide : ∀ b ∈ wr, b ∈ S :: wr := fun b z => List.mem_cons_of_mem _ z
  have old : ∀ {s s' : Shared}, Moved wr G s s' → (∀ b o, h0.get? b = some o → s.heap.get? b = some o) → ∀ b o, h0.get? b = some o → s'.heap.get? b = some o := fun mv k b o e => mv.heap b o (fun z => by rw [hw b z] at e; cases e) (k b o e)
  intro m
  induction m with
  | zero =>
    intro i s e st t k r
    obtain rfl : i = n := e
    refine codeAny_builtin (by exact F.entry_set_update_loop) ?_
    rw [Around.under_plainId (by exact F.plain_set_update_loop) _]
    refine wpAny_bind (W.done s _ _ st fun s1 mv => wpAny_pure (r s1 (mv.mono wide) ?_ (old mv k)))
    exact B.stay _ _ _ t (fun o z => mv.heap S o off z) (old mv k)
  | succ m ih =>
    intro i s e st t k r
    have lt : i < n := by omega
    refine codeAny_builtin (by exact F.entry_set_update_loop) ?_
    rw [Around.under_plainId (by exact F.plain_set_update_loop) _]
    refine wpAny_bind (W.item i s _ _ lt st fun v s1 pv st1 mv => ?_)
    have k1 := old mv k
    refine wpAny_bind (wpAny_holding (B.put i v s1 _ _ lt pv (B.stay _ _ _ t (fun o z => mv.heap S o off z) k1) k1 fun c h' tk le sb t1 => ?_))
    have k2 : ∀ b o, h0.get? b = some o → h'.get? b = some o := fun b o z => (sb.2 b (fun y => by rw [y, hn] at z; cases z)).trans (k1 b o z)
    refine wpAny_pure ⟨plainId_quiet (by exact F.plain_set_update_loop) _, ih (i + 1) _ (by omega) (W.frame _ s1 _ _ st1 le fun b z o y => ?_) t1 k2 fun s2 mv2 t2 k3 => r s2 (Moved.trans W.gtrans ((mv.mono wide).then_heap le fun b o z y => ?_) mv2) t2 k3⟩
    · rw [sb.2 b fun q => hS (by rw [← q]; exact z)]
      exact y
    · rw [sb.2 b fun q => z (by rw [q]; exact List.mem_cons_self)]
      exact y
end
end L2.EV
set_option Elab.async false
set_option linter.all false
set_option maxRecDepth 100000
set_option maxHeartbeats 4000000
namespace L2.EV
open PySem PySem.Spec PyProof.Rows L2
/-- an empty set, new -/
abbrev newS (w : World) : Obj := { cls := .type "set", dict := none, data := .set #[] 0 (.fresh 0 0 (!w.params.followText "set-order")) }
section
variable {prog : Program} {w : World} {A : Around} {E : Value → Shared → Prop} {s : Shared}
set_option maxHeartbeats 8000000 in
theorem bag_call {l : Addr} {items : Array Value} {T : Nat → Heap → Prop} {Q : Value → Shared → Prop} (hh : A.handled = none) (hl : s.heap.IsList l items) (B : Bag prog w A.in1.in1.in1 s.heap.objs.size s.heap (fun i v => items[i]? = some v) items.size T)
    (start : ∀ h' : Heap, h'.get? s.heap.objs.size = some (newS w) → T 0 h')
    (q : ∀ (h' : Heap) (tk : Nat), T items.size h' → (∀ b o, s.heap.get? b = some o → h'.get? b = some o) → Q (.ref s.heap.objs.size) { s with heap := h', toks := tk }) : wpAny (model prog w) A (call (.type "set") [.ref l]) Q E s := by
  obtain ⟨c, tl, e1⟩ := F.called_set.mro
  have e2 := F.called_set.made; have e3 := F.called_set.sub
  have e4 := F.called_set.notType; have e5 := F.called_set.canCreate; have e6 := F.typeCall_set_1 (.ref l)
  refine wpAny_call (codeAny_of_tree ?_)
  show wpAny _ _ (callAny (.type "set") ⟨[.ref l], []⟩) _ _ s
  refine wpAny_pure ⟨Code.quiet_builtin _ (by decide +kernel), codeAny_builtin (by exact F.entry_type_call) ?_⟩
  rw [Around.under_plain (by exact weight_type_call_type "set" [.ref l] []) (by rfl)]
  repeat (any_goals (first | with_reducible assumption | assumption | wp_step))
  refine codeAny_mono (code_set_led1 (P := prog) (s := s) (E := E) (.ref l) (Q₁ := fun v s1 => v = .ref s.heap.objs.size ∧ s1 = { s with heap := s.heap.push (newS w) }) ⟨rfl, rfl⟩) fun r s1 hr => ?_
  cases r with
  | error er => exact hr
  | ok fl =>
   cases fl with
   | next => exact hr.elim
   | brk => exact hr.elim
   | cont => exact hr.elim
   | ret v =>
    obtain ⟨rfl, rfl⟩ := hr
    have at_S : (s.heap.push (newS w)).get? s.heap.objs.size = some (newS w) := Heap.get?_push_size _ rfl
    have ty_S : Shared.TypeIs { s with heap := s.heap.push (newS w) } (.ref s.heap.objs.size) "set" := ⟨_, at_S, rfl⟩
    have e7 := F.called_set.init.lookup; have e8 := F.called_set.init.bind (.ref s.heap.objs.size)
    repeat (any_goals (first | with_reducible assumption | assumption | wp_step))
    refine codeAny_mono (codeAny_call_builtin (R := wants (fun r s2 => r = .none ∧ ∃ h' tk, s2 = { s with heap := h', toks := tk } ∧ T items.size h' ∧ ∀ b o, s.heap.get? b = some o → h'.get? b = some o) E) (by exact F.called_set.init.plain) (by exact F.entry_set_init) (check_set_init_1 ty_S ?_)) fun r s2 hr => ?_
    · obtain ⟨ol, hol, hcl, nl, hdl⟩ := hl
      obtain ⟨ocls, odict, odata, oslots⟩ := ol
      obtain rfl : ocls = .type "list" := hcl
      obtain rfl : odata = .seq items nl := hdl
      have f1 := F.sub_list_set; have f2 := F.sub_list_frozenset; have f3 : (Value.type "list" == Value.type "dict") = false := by decide
      have hol1 : (s.heap.push (newS w)).get? l = some { cls := .type "list", dict := odict, data := .seq items nl, slots := oslots } := Heap.get?_push_of_some _ hol
      have l1 : (s.heap.push (newS w)).IsList l items := ⟨_, hol1, rfl, nl, rfl⟩
      unfold Builtin.«set.__init__» noKeywords Builtin.Frozenset.updateFrom
      generalize hPI : pyIter = PI
      wp_walk
      subst hPI
      refine wpAny_pyIter_list l1 (wpAny_bind (wpAny_runValue ?_))
      have hlS : l < s.heap.objs.size := Heap.lt_size hol
      have sz : (s.heap.push (newS w)).objs.size = s.heap.objs.size + 1 := Heap.size_push ..
      have hh3 : A.in1.in1.in1.handled = none := by simp [hh]
      have neI : l ≠ (s.heap.push (newS w)).objs.size := by
        rw [sz]
        exact Nat.ne_of_lt (Nat.lt_succ_of_lt hlS)
      have gone : ∀ b, s.heap.objs.size ≤ b → s.heap.get? b = none := fun b hb => by
        cases z : s.heap.get? b with
        | none => rfl
        | some o => exact absurd (Heap.lt_size z) (Nat.not_lt.mpr hb)
      have off : s.heap.objs.size ∉ [(s.heap.push (newS w)).objs.size, l] := by
        rw [sz]
        simp only [List.mem_cons, List.not_mem_nil, or_false, not_or]
        exact ⟨Nat.ne_of_lt (Nat.lt_succ_self _), Nat.ne_of_gt hlS⟩
      refine bag_loop (h0 := s.heap) (T := T) ((Walks.list hh3 _ l neI items).toS) off B (gone _ (Nat.le_refl _)) (fun b hb => gone b (by
          rw [List.mem_singleton.mp hb, sz]
          exact Nat.le_succ _)) items.size 0 _ (Nat.zero_add _) ⟨⟨_, Heap.get?_push_size _ rfl, rfl, rfl⟩, (l1.push _)⟩ (start _ (Heap.get?_push_of_some _ at_S)) (fun b o e => Heap.get?_push_of_some _ (Heap.get?_push_of_some _ e)) fun s3 mv t3 k3 => ?_
      obtain ⟨h', g', d', tk', os'⟩ := s3
      obtain rfl : g' = s.gens := mv.gens
      obtain rfl : d' = s.drawn := mv.drawn
      obtain rfl : os' = s.os := mv.os
      show wpAny _ _ _ _ _ _
      refine wpAny_pure ?_
      show wpAny _ _ (ret Value.none) _ _ _
      exact wpAny_pure ⟨rfl, h', tk', rfl, t3, k3⟩
    · cases r with
      | error er => exact hr
      | ok fl =>
        cases fl with
        | next => exact hr.elim
        | brk => exact hr.elim
        | cont => exact hr.elim
        | ret u =>
          obtain ⟨rfl, h', tk, rfl, t3, k3⟩ := hr
          repeat (any_goals (first | assumption | wp_step))
          exact q _ _ t3 k3
end
end L2.EV
set_option Elab.async false
set_option linter.all false
set_option maxRecDepth 100000
set_option maxHeartbeats 4000000
namespace L2.EV
open PySem PySem.Spec PyProof.Rows L2
/-! ### how many unlike ones -/
section
variable {κ : Type} [DecidableEq κ]
def dist : List κ → Nat
  | [] => 0
  | x :: xs => if x ∈ xs then dist xs else dist xs + 1
theorem dist_snoc (x : κ) : ∀ l : List κ, dist (l ++ [x]) = if x ∈ l then dist l else dist l + 1
  | [] => by simp [dist]
  | y :: l => by
    have ih := dist_snoc x l
    show (if y ∈ l ++ [x] then dist (l ++ [x]) else dist (l ++ [x]) + 1) = if x ∈ y :: l then (if y ∈ l then dist l else dist l + 1) else (if y ∈ l then dist l else dist l + 1) + 1
    rw [ih]
    by_cases a : y ∈ l <;> by_cases b : x ∈ l <;> by_cases c : x = y
    · subst c; simp [a]
    · simp [a, b, c]
    · subst c; exact absurd a b
    · simp [a, b, c]
    · subst c; exact absurd b a
    · have c' : ¬ y = x := fun e => c e.symm
      simp [a, b, c, c']
    · subst c; simp [a]
    · have c' : ¬ y = x := fun e => c e.symm
      simp [a, b, c, c']
theorem dist_le : ∀ l : List κ, dist l ≤ l.length
  | [] => Nat.le_refl _
  | x :: l => by
    have := dist_le l
    show (if x ∈ l then dist l else dist l + 1) ≤ l.length + 1
    split <;> omega
theorem dist_iff : ∀ l : List κ, dist l = l.length ↔ l.Nodup
  | [] => by simp [dist]
  | x :: l => by
    have ih := dist_iff l
    have le := dist_le l
    show (if x ∈ l then dist l else dist l + 1) = l.length + 1 ↔ _
    rw [List.nodup_cons]
    by_cases h : x ∈ l
    · rw [if_pos h]
      exact ⟨fun e => absurd e (by omega), fun e => absurd h e.1⟩
    · rw [if_neg h]
      exact ⟨fun e => ⟨h, ih.mp (by omega)⟩, fun e => by rw [ih.mpr e.2]⟩
end
/-! ### keys that are carried by value: texts, whole numbers -/
section
variable {prog : Program} {w : World} {A : Around} {κ : Type} [DecidableEq κ] {knd : PySem.KeyKind prog w κ} {S : Addr} {h0 : Heap} {items : Array Value} {ks : List κ}
def inK (ks : List κ) (k : κ) : Bool := decide (k ∈ ks)
theorem inK_iff {ks : List κ} {k : κ} : inK ks k = true ↔ k ∈ ks := decide_eq_true_iff
theorem set_as {h : Heap} {a : Addr} {F F' : κ → Bool} {n n' : Nat} (t : h.SetOf knd a F n) (e : F = F') (en : n = n') : h.SetOf knd a F' n' := by
  rw [← e, ← en]
  exact t
theorem set_fresh {h : Heap} {a : Addr} {led : Bool} (e : h.get? a = some { cls := .type "set", dict := none, data := .set #[] 0 (.fresh 0 0 led) }) : h.SetOf knd a (inK ([] : List κ)) (dist ([] : List κ)) :=
  set_as ((PyProof.Rows.setObjOf_fresh (knd := knd) led).setOf e (by unfold scanBound; omega)) (funext fun k => (decide_eq_false List.not_mem_nil).symm) rfl
abbrev BagK (knd : PySem.KeyKind prog w κ) (S : Addr) (ks : List κ) (i : Nat) (h : Heap) : Prop := h.SetOf knd S (inK (ks.take i)) (dist (ks.take i))
theorem bag_keys (hn : ks.length = items.size) (h4 : items.size ≤ 1000) (hv : ∀ (i : Nat) (v : Value) (k : κ), items[i]? = some v → ks[i]? = some k → knd.is k v = true ∧ v.scannable = true) :
    Bag prog w A S h0 (fun i v => items[i]? = some v) items.size (BagK knd S ks) where
  stay := fun i h h' t k _ => by
    obtain ⟨o, es, ep, tb, ho, rest⟩ := t
    exact ⟨o, es, ep, tb, k o ho, rest⟩
  put := fun i v s E Q lt pv t k q => by
    have ei : ks[i]? = some (ks[i]'(by omega)) := List.getElem?_eq_getElem _
    obtain ⟨hk, hs⟩ := hv i v _ pv ei
    generalize ks[i]'(by omega) = y at ei hk
    have et : ks.take (i + 1) = ks.take i ++ [y] := by rw [List.take_succ, ei]; rfl
    have dl := dist_le (ks.take i)
    rw [List.length_take] at dl
    unfold setAdd
    refine wpAny_holding (wpAny_bind (knd.pyHash (k := y) hk ?_))
    refine wpAny_setAddHashed_of (knd := knd) (s := { s with toks := s.toks + 1 }) hk hs t (by unfold scanBound; omega) fun h' sb t' => ?_
    refine q _ h' (s.toks + 1) (Nat.le_succ _) sb ?_
    show h'.SetOf knd S (inK (ks.take (i + 1))) (dist (ks.take (i + 1)))
    rw [et]
    refine set_as t' (funext fun k => ?_) ?_
    · show (decide (k ∈ ks.take i) || decide (k = y)) = decide (k ∈ ks.take i ++ [y])
      by_cases a : k ∈ ks.take i <;> by_cases b : k = y <;> simp [a, b]
    · rw [dist_snoc]
      show (if decide (y ∈ ks.take i) = true then _ else _) = _
      by_cases a : y ∈ ks.take i <;> simp [a]
end
end L2.EV
set_option Elab.async false
set_option linter.all false
set_option maxRecDepth 100000
set_option maxHeartbeats 4000000
namespace L2.EV
open PySem PySem.Spec PyProof.Rows L2
/-! ### set(xs) of texts, len of it -/
abbrev keysT (ws : List Str) : List Key := ws.map Sum.inr
theorem vals_texts : ∀ {ws : List Str} {us : List Value}, Vals (ws.map V.str) us → ∀ (i : Nat) (v : Value) (k : Key), us[i]? = some v → (keysT ws)[i]? = some k → keyIs k v = true ∧ v.scannable = true
  | [], _, .nil, i, v, k, h, _ => by simp at h
  | x :: ws, _, .cons r t, 0, v, k, h, g => by
    obtain ⟨tk, rfl⟩ := r
    cases h
    cases g
    exact ⟨keyIs_str x tk, rfl⟩
  | x :: ws, _, .cons r t, i + 1, v, k, h, g => vals_texts t i v k (by simpa using h) (by simpa using g)
def rSetTx (K : PySem.W.Frag) (P : Program) (w : World) : List V → Hp → VK → Prop := fun xs H Q => ∃ (l : Addr) (ws : List Str), xs = [.ref l] ∧ SqL K H l (ws.map V.str) ∧ ws.length ≤ 900 ∧
  ∀ p, H p = none → Q (.ref p) (upd H p (SetK P w p (inK (keysT ws)) (dist (keysT ws))))
theorem cr_setTx {X : Cx} (hc : X.calm = true) : CallR X (.type "set") (rSetTx X.K X.prog X.w) := by
  intro pins s σ H xs us Q I r h
  obtain ⟨l, ws, rfl, hq, hn, q⟩ := h
  obtain ⟨u, rfl, rx⟩ := vals1 r
  cases rx
  obtain ⟨its, rv, pl, _⟩ := I.list hq
  have hl : its.toArray.size = (keysT ws).length := by rw [List.size_toArray, ← rv.length, List.length_map, List.length_map]
  have hl2 : (keysT ws).length ≤ 900 := by rw [List.length_map]; exact hn
  refine bag_call (T := BagK (mixKind X.prog X.w) s.heap.objs.size (keysT ws)) (I.ok.hd hc) pl.isList (bag_keys hl.symm (by omega) fun i v k h1 h2 => ?_) (fun h' e => ?_) fun h' tk t kp => ?_
  · exact vals_texts rv i v k (by simpa using h1) h2
  · exact set_fresh (knd := mixKind X.prog X.w) e
  · have t' : h'.SetOf (mixKind X.prog X.w) s.heap.objs.size (inK (keysT ws)) (dist (keysT ws)) := by
      have e : (keysT ws).take its.toArray.size = keysT ws := by rw [hl, List.take_length]
      have t1 : h'.SetOf (mixKind X.prog X.w) s.heap.objs.size (inK ((keysT ws).take its.toArray.size)) (dist ((keysT ws).take its.toArray.size)) := t
      rw [e] at t1
      exact t1
    exact ⟨.ref s.heap.objs.size, _, I.laid (t' := tk) kp (Nat.le_refl _) (setK_new t'), rfl, q _ (I.hok.fresh (Nat.le_refl _))⟩
def rLenSet (P : Program) (w : World) : List V → Hp → VK → Prop := fun xs H Q => ∃ (a : Addr) (S : Key → Bool) (n : Nat), xs = [.ref a] ∧ H a = some (SetK P w a S n) ∧ Q (.int (n : Int)) H
theorem cr_lenSet {X : Cx} : CallR X (.builtin "len") (rLenSet X.prog X.w) := by
  intro pins s σ H xs us Q I r h
  obtain ⟨a, S, n, rfl, ha, q⟩ := h
  obtain ⟨u, rfl, rx⟩ := vals1 r
  cases rx
  have so : s.heap.SetOf (mixKind X.prog X.w) a S n := (I.hok a _ ha).1
  obtain ⟨o, es, ep, t, ho, hex, hd, _, _, hb, hf, hn⟩ := so
  have hb2 : es.size < 4096 := hb
  exact call_len_set ho hex hd hf (by omega) ⟨.int (n : Int), H, I.tok _, ⟨_, by rw [hn]⟩, q⟩
end L2.EV
set_option Elab.async false
set_option linter.all false
set_option maxRecDepth 100000
set_option maxHeartbeats 4000000
namespace L2.K03
open PySem PySem.Spec PyProof.Rows L2.EV
/-! ### unlike texts -/
theorem inr_inj {ws : List Str} : (keysT ws).Nodup ↔ ws.Nodup := by
  induction ws with
  | nil => simp
  | cons x ws ih =>
    show (Sum.inr x :: keysT ws).Nodup ↔ _
    rw [List.nodup_cons, List.nodup_cons, ih]
    have e : (Sum.inr x : Key) ∈ keysT ws ↔ x ∈ ws := by
      constructor
      · intro h
        obtain ⟨y, hy, e⟩ := List.mem_map.mp h
        rw [← Sum.inr.inj e]
        exact hy
      · exact fun h => List.mem_map.mpr ⟨x, h, rfl⟩
    rw [e]
abbrev sUn : Stmt := top 19
theorem scUn : FnScope ["values"] ["values"] (defScope sUn) := ⟨rfl, rfl, rfl, by decide +kernel, rfl, by decide +kernel, by decide +kernel⟩
def spUnT : Sp := fun vs H Q _ => ∃ (l : Addr) (ws : List Str), vs = [.ref l] ∧ H l = some (.lst (ws.map V.str)) ∧ ws.length ≤ 900 ∧ ∀ H', Same H H' → Q (.bl (decide ws.Nodup)) H'
section
variable {P : Program} {w : World} {K : PySem.W.Frag} {mg : Str → Option Value} {base : Heap} {f : Addr} {fd : FuncData}
theorem ok_unT (F : FnP K "are_unlike" sUn f fd) (mL : mg "len" = none) (mS : mg "set" = none) : FnOk P w K mg base CX0 1 f fd ["values"] spUnT := by
  refine F.ok scUn (fun vs H Q E h => ?_) (fun cdv A outer s H vs Q E hr h => ?_)
  · obtain ⟨l, ws, rfl, _⟩ := h
    rfl
  · obtain ⟨l, ws, rfl, hl, hn, q⟩ := h
    refine ⟨_, PSs.nox (pss_one (ps_ret (pe_cmpR op_eq (pe_callB cr_lenSet (by rfl) mL PySem.boot_len (pa_cons (pe_callTy (cr_setTx rfl) (by rfl) mS (by decide +kernel) (pa_cons (pv 0) pa_nil)) pa_nil))
      (pe_callB call_len_seq (by rfl) mL PySem.boot_len (pa_cons (pv 0) pa_nil)) (nomark _)))), ?_⟩
    refine ⟨_, rfl, l, ws, rfl, SqL.of hl, hn, fun p hp => ⟨p, _, _, rfl, upd_same, ?_⟩⟩
    have s1 : Same H (upd H p (SetK P w p (inK (keysT ws)) (dist (keysT ws)))) := same_upd hp
    refine ⟨_, rfl, l, _, rfl, .inl (SqL.of (s1 _ _ hl)), rfl, ?_⟩
    have e : decide (V.int (dist (keysT ws) : Int) = V.int ((ws.map V.str).length : Int)) = decide ws.Nodup := by
      rw [List.length_map]
      have d := dist_iff (keysT ws)
      rw [List.length_map, inr_inj] at d
      by_cases h : ws.Nodup
      · rw [decide_eq_true h, decide_eq_true (by rw [d.mpr h])]
      · rw [decide_eq_false h, decide_eq_false fun z => h (d.mp (by injection z with z; omega))]
    rw [e]
    exact q _ s1
end
end L2.K03
set_option Elab.async false
set_option linter.all false
set_option maxRecDepth 100000
set_option maxHeartbeats 4000000
namespace L2.K03
open PySem PySem.Spec PyProof.Rows L2.EV
/-! ### the form of rooms -/
inductive RoomsF (K : PySem.W.Frag) (H : Hp) : V → Bool → Prop
  | no {v : V} : BookF K H v false → RoomsF K H v false
  | yes {l : Addr} {ws : List Str} : H l = some (.lst (ws.map V.str)) → (∀ x ∈ ws, x.length ≤ sizeLine ∧ wordB x = true) → ws.length ≤ 900 → RoomsF K H (.ref l) (decide ws.Nodup)
theorem wdsF_texts {K : PySem.W.Frag} {H : Hp} {ws : List Str} (h : ∀ x ∈ ws, x.length ≤ sizeLine ∧ wordB x = true) : WdsF K H (ws.map V.str) (List.replicate ws.length true) := by
  refine ⟨by simp, fun i x r h1 h2 => ?_⟩
  obtain ⟨y, hy, rfl⟩ := item_str h1
  have er : r = true := (List.mem_replicate.mp (List.mem_of_getElem? h2)).2
  subst er
  have := h y hy
  rw [← this.2]
  exact .str this.1
abbrev sRF : Stmt := top 17
theorem scRF : FnScope ["value"] ["value"] (defScope sRF) := ⟨rfl, rfl, rfl, by decide +kernel, rfl, by decide +kernel, by decide +kernel⟩
def spRF (K : PySem.W.Frag) : Sp := fun vs H Q _ => ∃ v r, vs = [v] ∧ RoomsF K H v r ∧ ∀ H', Same H H' → Q (.bl r) H'
section
variable {P : Program} {w : World} {K : PySem.W.Frag} {mg : Str → Option Value} {base : Heap} {f : Addr} {fd : FuncData}
theorem ok_rf (F : FnP K "has_rooms_form" sRF f fd) (GB : Got P w K mg base 2 "has_book_form" ["value"] (spBF K)) (GU : Got P w K mg base 1 "are_unlike" ["values"] spUnT) : FnOk P w K mg base CX0 3 f fd ["value"] (spRF K) := by
  refine F.ok scRF (fun vs H Q E h => ?_) (fun cdv A outer s H vs Q E hr h => ?_)
  · obtain ⟨v, r, rfl, _⟩ := h
    rfl
  · obtain ⟨v, r, rfl, h, q⟩ := h
    refine ⟨_, PSs.nox (pss_one (ps_ret (pe_and (pe_got GB hr (pa_cons (pv 0) pa_nil)) (pe_one (pe_got GU hr (pa_cons (pv 0) pa_nil)))))), ?_⟩
    cases h with
    | no hb => exact ⟨_, rfl, v, false, rfl, hb, fun H' s1 => ⟨false, rfl, iteF (q _ s1)⟩⟩
    | @yes l ws hl hw hn =>
      refine ⟨_, rfl, .ref l, _, rfl, .lst hl (by rw [List.length_map]; exact hn) (wdsF_texts hw), fun H1 s1 => ⟨_, rfl, ?_⟩⟩
      rw [show (List.replicate ws.length true).all id = true by simp]
      exact iteT ⟨_, rfl, l, ws, rfl, s1 _ _ hl, hn, fun H2 s2 => q _ (s1.trans s2)⟩
end
end L2.K03
set_option Elab.async false
set_option linter.all false
set_option maxRecDepth 100000
set_option maxHeartbeats 4000000
namespace L2.EV
open PySem PySem.Spec PyProof.Rows L2
/-! ### nested tuples as elements of a set: what the search asks of them -/
section
variable {prog : Program} {w : World}
def PlainAt (prog : Program) (w : World) (n : Nat) (s : Shared) (v : Value) : Prop := ∀ (A : Around) (E : Value → Shared → Prop) (Q : Bool → Shared → Prop), Q false s → wpAny (model prog w) A (ofAClassStatement n v) Q E s
theorem plain_tup {n : Nat} {s : Shared} {a : Addr} {o : Obj} {vs : Array Value} {m : Nat} (ho : s.heap.get? a = some o) (hc : o.cls = .type "tuple") (hd : o.data = .seq vs m) (hq : ∀ v ∈ vs.toList, PlainAt prog w n s v) : PlainAt prog w (n + 1) s (.ref a) := fun A E Q h => by
  have ty : s.TypeIs (.ref a) "tuple" := ⟨o, ho, hc⟩
  unfold ofAClassStatement
  refine wpAny_bind (wpAny_typeOf ty ?_)
  dsimp only
  simp only [show (("tuple" : String) == "tuple") = true by decide, if_true, Bool.not_true, Bool.false_eq_true, if_false]
  try refine wpAny_bind (wpAny_pure ?_)
  try simp only [Bool.not_true, Bool.false_eq_true, if_false]
  show wpAny _ _ (seqItems? (.ref a) >>= _) _ _ s
  refine wpAny_bind (wpAny_seqItems ho hd (wpAny_bind ?_))
  show wpAny _ _ (forIn vs _ _) _ _ s
  rw [← Array.forIn_toList]
  refine wpAny_forIn_list _ (fun left acc t => acc.1 = none ∧ t = s ∧ ∀ v ∈ left, PlainAt prog w n s v) _ (fun v left acc t ⟨h1, h2, h3⟩ => ?_) (fun acc t ⟨h1, h2, _⟩ => ?_) _ _ ⟨rfl, rfl, hq⟩
  · subst h2
    refine wpAny_bind (h3 v List.mem_cons_self _ _ _ ?_)
    simp only [Bool.false_eq_true, if_false]
    exact wpAny_pure ⟨rfl, rfl, fun u hu => h3 u (List.mem_cons_of_mem _ hu)⟩
  · subst h2
    obtain ⟨a1, a2⟩ := acc
    obtain rfl : a1 = none := h1
    exact wpAny_pure h
mutual
theorem plain_key : ∀ (k : NestedKey) (v : Value) (n : Nat) (s : Shared), NestedIs s.heap k v → k.depth ≤ n → PlainAt prog w n s v
  | .none, _, n, s, x, _ => by cases x; exact fun A E Q h => by cases n <;> exact wpAny_pure h
  | .num i, _, n, s, x, _ => by cases x <;> exact fun A E Q h => by cases n <;> exact wpAny_pure h
  | .text y, _, n, s, x, _ => by cases x; exact fun A E Q h => by cases n <;> exact wpAny_pure h
  | .tup ks, _, n, s, x, hn => by
    cases x with
    | tup hg hc hd hk =>
      simp only [NestedKey.depth] at hn
      cases n with
      | zero => omega
      | succ n => exact plain_tup hg hc hd (plain_keys ks _ n s hk (by omega))
theorem plain_keys : ∀ (ks : List NestedKey) (vs : List Value) (n : Nat) (s : Shared), NestedAll s.heap ks vs → NestedKey.depthAll ks ≤ n → ∀ v ∈ vs, PlainAt prog w n s v
  | [], _, n, s, x, _, v, hv => by cases x; cases hv
  | k :: ks, _, n, s, x, hn, v, hv => by
    cases x with
    | cons x1 x2 =>
      simp only [NestedKey.depthAll] at hn
      rcases List.mem_cons.mp hv with e | hv
      · rw [e]; exact plain_key k _ n s x1 (by omega)
      · exact plain_keys ks _ n s x2 (by omega) v hv
end
end
end L2.EV
set_option Elab.async false
set_option linter.all false
set_option maxRecDepth 100000
set_option maxHeartbeats 4000000
namespace L2.EV
open PySem PySem.Spec PyProof.Rows L2
abbrev Std (h0 : Heap) (s : Shared) : Prop := ∀ b o, h0.get? b = some o → s.heap.get? b = some o
/-- things that stand in h0 and can be elements of a set -/
structure Elt (prog : Program) (w : World) (A : Around) (h0 : Heap) (κ : Type) [DecidableEq κ] where
  is : κ → Addr → Prop
  hash : κ → Int
  pyh : ∀ {k : κ} {a : Addr} {s : Shared} {E : Value → Shared → Prop} {Q : Int → Shared → Prop}, is k a → Std h0 s → (∀ tk, s.toks ≤ tk → Q (hash k) { s with toks := tk }) → wpAny (model prog w) A (pyHash (.ref a)) Q E s
  eq : ∀ {x y : κ} {a b : Addr} {s : Shared} {E : Value → Shared → Prop} {Q : Bool → Shared → Prop}, is x a → is y b → Std h0 s → Q (decide (x = y)) s → wpAny (model prog w) A (eqBool (.ref a) (.ref b)) Q E s
  quiet : ∀ {k : κ} {a : Addr} {s : Shared} {E : Value → Shared → Prop} {Q : Bool → Shared → Prop}, is k a → Std h0 s → Q true s → wpAny (model prog w) A (eqIsQuiet 8 (.ref a)) Q E s
  plain : ∀ {k : κ} {a : Addr} {s : Shared} {E : Value → Shared → Prop} {Q : Bool → Shared → Prop}, is k a → Std h0 s → Q false s → wpAny (model prog w) A (ofAClassStatement 8 (.ref a)) Q E s
  byv : ∀ {k : κ} {a : Addr} {s : Shared} {E : Value → Shared → Prop} {Q : Bool → Shared → Prop}, is k a → Std h0 s → (∀ c, Q c s) → wpAny (model prog w) A (hashByValue 8 (.ref a)) Q E s
section
variable {prog : Program} {w : World} {A : Around} {h0 : Heap} {κ : Type} [DecidableEq κ] {Z : Elt prog w A h0 κ} {E : Value → Shared → Prop} {s : Shared} {S : Addr}
theorem Elt.seen {k : κ} {b : Addr} {Q : Bool → Shared → Prop} (hk : Z.is k b) (st : Std h0 s) {ys : List Value} (hy : ∀ y ∈ ys, ∃ j c, y = Value.ref c ∧ Z.is j c) (q : Q false s) : wpAny (model prog w) A (searchCouldBeSeen (.ref b) ys) Q E s := by
  unfold searchCouldBeSeen
  refine wpAny_bind (wpAny_forIn_list _ (fun left acc t => acc.1 = none ∧ t = s ∧ ∀ y ∈ left, ∃ j c, y = Value.ref c ∧ Z.is j c) _ (fun v left acc t ⟨h1, h2, h3⟩ => ?_) (fun acc t ⟨h1, h2, _⟩ => ?_) _ _ ⟨rfl, rfl, hy⟩)
  · subst h2
    obtain ⟨j, c, rfl, hc⟩ := h3 v List.mem_cons_self
    have more : ∀ y ∈ left, ∃ j c, y = Value.ref c ∧ Z.is j c := fun u hu => h3 u (List.mem_cons_of_mem _ hu)
    dsimp only
    by_cases hv : (b == c || (carriedByValue (.ref b) && carriedByValue (.ref c))) = true
    · exact wp_if_pos hv (wpAny_pure ⟨rfl, rfl, more⟩)
    · refine wp_if_neg hv (wpAny_bind (Z.quiet hk st ?_))
      simp only [Bool.not_true, Bool.false_eq_true, if_false]
      refine wpAny_bind (Z.quiet hc st ?_)
      simp only [Bool.not_true, Bool.false_eq_true, if_false]
      refine wpAny_bind (Z.plain hk st ?_)
      simp only [Bool.false_eq_true, if_false]
      refine wpAny_bind (Z.plain hc st ?_)
      simp only [Bool.false_eq_true, if_false]
      exact wpAny_pure ⟨rfl, rfl, more⟩
  · subst h2
    obtain ⟨a1, a2⟩ := acc
    obtain rfl : a1 = none := h1
    exact wpAny_pure q
/-- the set at S with the elements L -/
structure TabS (Z : Elt prog w A h0 κ) (S : Addr) (h : Heap) (L : List (Addr × κ)) (es : Array (Int × Value)) (ep : Nat) (t : SetTable) : Prop where
  ob : ∃ o, h.get? S = some o ∧ o.ExactSet ∧ o.data = .set es ep t
  rows : es.toList = L.map fun p => (Z.hash p.2, Value.ref p.1)
  tab : TabOk t (L.map fun p => Z.hash p.2)
  nd : (L.map (·.2)).Nodup
  el : ∀ p ∈ L, Z.is p.2 p.1
  room : L.length * 5 < t.mask * 3
  few : L.length < 64
variable {L : List (Addr × κ)} {es : Array (Int × Value)} {ep : Nat} {t : SetTable}
theorem TabS.size (R : TabS Z S s.heap L es ep t) : es.size = L.length := by
  have e := congrArg List.length R.rows
  simpa using e
theorem TabS.fits (R : TabS Z S s.heap L es ep t) : t.fits es.size = true := by
  have a := R.tab.sz; have b := R.size; have c := R.room
  rw [List.length_map] at a
  unfold SetTable.fits SetTable.fill
  rw [R.tab.dm, Bool.and_eq_true, beq_iff_eq, decide_eq_true_eq]
  refine ⟨by omega, ?_⟩
  show t.place.size + 0 ≤ t.mask
  omega
theorem TabS.entry (R : TabS Z S s.heap L es ep t) {i : Nat} {p : Addr × κ} (e : L[i]? = some p) : es[i]? = some (Z.hash p.2, Value.ref p.1) := by
  rw [← Array.getElem?_toList, R.rows, List.getElem?_map, e]
  rfl
theorem TabS.hashAt (R : TabS Z S s.heap L es ep t) {i : Nat} {p : Addr × κ} (e : L[i]? = some p) : ((es[i]?).map (·.1)).getD 0 = Z.hash p.2 := by
  rw [R.entry e]
  rfl
theorem nodummy (m : Nat) : ∀ (n : Nat) (p : SetTable.Probe), p.dummy = none → (nth m p n).dummy = none
  | 0, _, e => e
  | n + 1, p, e => nodummy m n (adv m p) (by
    unfold adv
    split <;> exact e)
abbrev fst (m : Nat) (h : Int) : SetTable.Probe := runAt m (SetTable.bits h % (m + 1)) (SetTable.bits h)
theorem look_from (R : TabS Z S s.heap L es ep t) (st : Std h0 s) {x : Addr} {k : κ} (hx : Z.is k x) {K : Nat} (kf : K < 10 * SetTable.turns t.mask) (ke : way t.mask (Z.hash k) K ∉ t.place.toList) (kb : ∀ c, c < K → way t.mask (Z.hash k) c ∈ t.place.toList)
    {Q : SetFound → Shared → Prop} (hin : k ∈ L.map (·.2) → Q (.there none) s) (hout : k ∉ L.map (·.2) → Q (.free (way t.mask (Z.hash k) K) false) s) : ∀ (f c : Nat) (stand : Option SetTable.Probe), stand.getD (t.probeStart (Z.hash k)) = nth t.mask (fst t.mask (Z.hash k)) c → c ≤ K → K - c < f →
      (∀ (i : Nat) p, L[i]? = some p → p.2 = k → ∃ d, c ≤ d ∧ d < K ∧ t.place.toList[i]? = some (way t.mask (Z.hash k) d)) → wpAny (model prog w) A (setSearchFrom S (.ref x) (Z.hash k) true f stand) Q E s := by
  intro f
  induction f with
  | zero => exact fun c stand _ _ z => absurd z (Nat.not_lt_zero _)
  | succ f ih =>
    intro c stand hst hc hf ahead
    obtain ⟨o, ho, hex, hd⟩ := R.ob
    rw [setSearchFrom_succ]
    refine wpAny_bind (wpAny_setState_of ho hd R.fits ?_)
    dsimp only
    refine wp_if_neg (by unfold SetTable.gaveWay; rw [mask_odd R.tab.mok]; decide) ?_
    try refine wpAny_bind (wpAny_pure ?_)
    have shift : ∀ q, nth t.mask (nth t.mask (fst t.mask (Z.hash k)) c) q = nth t.mask (fst t.mask (Z.hash k)) (c + q) := fun q => (nth_add t.mask c _ q).symm
    have at_ : ∀ q, (nth t.mask (nth t.mask (fst t.mask (Z.hash k)) c) q).j = way t.mask (Z.hash k) (c + q) := fun q => congrArg SetTable.Probe.j (shift q)
    have hK : c + (K - c) = K := by omega
    rcases go_spec t R.tab.ris R.tab.dm (fun i => ((es[i]?).map (·.1)).getD 0) (Z.hash k) (10 * SetTable.turns t.mask) (K - c) _ (nodummy t.mask c _ rfl) (by omega) (fun q hq => by rw [at_]; exact kb (c + q) (by omega)) (by rw [at_, hK]; exact ke)
      with ⟨q, i, hq, hi, hh, no, pr⟩ | ⟨no, pr⟩
    · have pr' : t.probe (fun i => ((es[i]?).map (·.1)).getD 0) (Z.hash k) (stand.getD (t.probeStart (Z.hash k))) = some (.candidate (way t.mask (Z.hash k) (c + q)) i (nth t.mask (fst t.mask (Z.hash k)) (c + (q + 1)))) := by
        rw [hst, ← at_, ← shift]
        exact pr
      rw [pr']
      dsimp only
      rw [at_] at hi
      have il : i < L.length := by
        have a := (List.getElem?_eq_some_iff.mp hi).1; have b := R.tab.sz
        rw [List.length_map] at b
        rw [Array.length_toList] at a
        omega
      obtain ⟨p, hp⟩ : ∃ p, L[i]? = some p := ⟨_, List.getElem?_eq_getElem il⟩
      have pm : p ∈ L := List.mem_of_getElem? hp
      have slot : t.slot (way t.mask (Z.hash k) (c + q)) = .live i := slot_live R.tab.ris hi
      have rest : wpAny (model prog w) A (searchRest S (.ref x) (Z.hash k) true f es t (way t.mask (Z.hash k) (c + q)) i (nth t.mask (fst t.mask (Z.hash k)) (c + (q + 1)))) Q E s := by
        unfold searchRest
        rw [R.entry hp]
        dsimp only
        refine wpAny_bind (wpAny_holding (Z.eq (R.el p pm) hx st (wpAny_bind (wpAny_setState_of ho hd R.fits ?_))))
        dsimp only
        by_cases e : p.2 = k
        · exact wp_if_pos (by simp [e]) (wpAny_pure (hin (List.mem_map.mpr ⟨p, pm, e⟩)))
        · refine wp_if_neg (by simp [e]) ?_
          try refine wpAny_bind (wpAny_pure ?_)
          rw [sameMem]
          dsimp only
          simp only [if_true, slot, R.entry hp]
          refine wpAny_bind (wpAny_isSame_ref_self (wpAny_bind (wpAny_pure ?_)))
          simp only [if_true]
          refine wp_if_neg (by simp [e]) (ih (c + (q + 1)) _ rfl (by omega) (by omega) fun i1 p1 hp1 e1 => ?_)
          obtain ⟨d, a1, a2, a3⟩ := ahead i1 p1 hp1 e1
          refine ⟨d, ?_, a2, a3⟩
          rcases Nat.lt_trichotomy d (c + q) with z | z | z
          · exact absurd ((R.hashAt hp1).trans (congrArg Z.hash e1)) (no (d - c) i1 (by omega) (by rw [at_, show c + (d - c) = d by omega]; exact a3))
          · rw [z] at a3
            have y := slot_live R.tab.ris a3
            rw [slot] at y
            injection y with y
            rw [← y, hp] at hp1
            exact absurd ((congrArg Prod.snd (Option.some.inj hp1)).trans e1) e
          · omega
      by_cases led : t.led = true
      · refine wp_if_neg (by simp [led]) ?_
        try refine wpAny_bind (wpAny_pure ?_)
        exact rest
      · refine wp_if_pos (by simp [led]) (wpAny_bind (Z.seen hx st (fun y hy => ?_) ?_))
        · obtain ⟨e, he, ee⟩ := List.mem_map.mp hy
          have he2 : e ∈ es.toList := by
            have : e ∈ es ∧ e.1 = Z.hash k := by simpa using he
            simpa using this.1
          rw [R.rows] at he2
          obtain ⟨p2, hp2, e2⟩ := List.mem_map.mp he2
          exact ⟨p2.2, p2.1, by rw [← ee, ← e2], R.el p2 hp2⟩
        · refine wp_if_neg (by decide) ?_
          try refine wpAny_bind (wpAny_pure ?_)
          exact rest
    · have pr' : t.probe (fun i => ((es[i]?).map (·.1)).getD 0) (Z.hash k) (stand.getD (t.probeStart (Z.hash k))) = some (.empty (way t.mask (Z.hash k) K) none) := by
        have e : way t.mask (Z.hash k) K = (nth t.mask (nth t.mask (fst t.mask (Z.hash k)) c) (K - c)).j := by rw [at_, hK]
        rw [hst, e]
        exact pr
      rw [pr']
      dsimp only
      refine wpAny_pure (hout fun hm => ?_)
      obtain ⟨p, hp, e⟩ := List.mem_map.mp hm
      obtain ⟨i, hi, ei⟩ := List.getElem_of_mem hp
      have hp' : L[i]? = some p := by rw [List.getElem?_eq_getElem hi, ei]
      obtain ⟨d, a1, a2, a3⟩ := ahead i p hp' e
      exact no (d - c) i (by omega) (by rw [at_, show c + (d - c) = d by omega]; exact a3) ((R.hashAt hp').trans (congrArg Z.hash e))
theorem look (R : TabS Z S s.heap L es ep t) (st : Std h0 s) {x : Addr} {k : κ} (hx : Z.is k x) {Q : SetFound → Shared → Prop} (hin : k ∈ L.map (·.2) → Q (.there none) s)
    (hout : ∀ K, k ∉ L.map (·.2) → way t.mask (Z.hash k) K ∉ t.place.toList → (∀ c, c < K → way t.mask (Z.hash k) c ∈ t.place.toList) → Q (.free (way t.mask (Z.hash k) K) false) s) : wpAny (model prog w) A (setSearch S (.ref x) (Z.hash k) true) Q E s := by
  have rm := R.room
  obtain ⟨K, kf, ke, kb⟩ := R.tab.first (by rw [List.length_map]; omega) (Z.hash k)
  have few : K < 100000 := by
    have : 10 * SetTable.turns t.mask ≤ 1420 := by
      unfold SetTable.turns
      rcases R.tab.mok with e | e | e <;> omega
    omega
  unfold setSearch
  refine look_from R st hx kf ke kb hin (fun z => hout K z ke kb) 100000 0 none rfl (Nat.zero_le _) (by omega) fun i p hp e => ?_
  have hh : (L.map fun p => Z.hash p.2)[i]? = some (Z.hash k) := by rw [List.getElem?_map, hp, ← e]; rfl
  have il : i < t.place.toList.length := by
    have a := (List.getElem?_eq_some_iff.mp hp).1; have b := R.tab.sz
    rw [List.length_map] at b
    rw [Array.length_toList]
    omega
  have hj := List.getElem?_eq_getElem il
  obtain ⟨d, a, b⟩ := R.tab.before ke hh hj
  exact ⟨d, Nat.zero_le _, a, by rw [hj, b]⟩
end
end L2.EV
set_option Elab.async false
set_option linter.all false
set_option maxRecDepth 100000
set_option maxHeartbeats 4000000
namespace L2.EV
open PySem PySem.Spec PyProof.Rows L2
theorem pick_range {α : Type} : ∀ L : List α, (List.range L.length).filterMap (fun i => L[i]?) = L
  | [] => rfl
  | x :: L => by
    have ih := pick_range L
    rw [List.length_cons, List.range_succ_eq_map, List.filterMap_cons_some (f := fun i : Nat => (x :: L)[i]?) (a := 0) (b := x) rfl, List.filterMap_map]
    exact congrArg (x :: ·) ih
section
variable {prog : Program} {w : World} {A : Around} {h0 : Heap} {κ : Type} [DecidableEq κ] {Z : Elt prog w A h0 κ} {E : Value → Shared → Prop} {s : Shared} {S : Addr} {L : List (Addr × κ)} {es : Array (Int × Value)} {ep : Nat} {t : SetTable}
abbrev rowZ (Z : Elt prog w A h0 κ) (p : Addr × κ) : Int × Value := (Z.hash p.2, Value.ref p.1)
theorem picked (order : Array Nat) (hr : es.toList = L.map (rowZ Z)) (hp : order.toList.Perm (List.range L.length)) :
    ∃ M : List (Addr × κ), (order.filterMap (es[·]?)).toList = M.map (rowZ Z) ∧ M.Perm L ∧ (M.map fun p => Z.hash p.2) = order.toList.map fun i => (es.map (·.1)).getD i 0 := by
  have ei : ∀ i : Nat, es[i]? = (L[i]?).map (rowZ Z) := fun i => by rw [← Array.getElem?_toList, hr, List.getElem?_map]
  refine ⟨order.toList.filterMap fun i => L[i]?, ?_, ?_, ?_⟩
  · have a : (order.filterMap (es[·]?)).toList = order.toList.filterMap (fun i => es[i]?) := by simp
    rw [a, List.map_filterMap]
    congr 1
    exact funext ei
  · have a := hp.filterMap fun i => L[i]?
    rw [pick_range] at a
    exact a
  · have b : ∀ l : List Nat, (∀ i ∈ l, i < L.length) → ((l.filterMap fun i => L[i]?).map fun p => Z.hash p.2) = l.map fun i => (es.map (·.1)).getD i 0 := by
      intro l
      induction l with
      | nil => exact fun _ => rfl
      | cons i l ih =>
        intro h
        have il := h i List.mem_cons_self
        rw [List.filterMap_cons_some (List.getElem?_eq_getElem il), List.map_cons, List.map_cons, ih fun j hj => h j (List.mem_cons_of_mem _ hj)]
        have c : (es.map (·.1))[i]? = some (Z.hash (L[i]).2) := by
          rw [Array.getElem?_map, ei, List.getElem?_eq_getElem il]
          rfl
        congr 1
        simp [Array.getD_eq_getD_getElem?, c]
    exact b _ fun i hi => List.mem_range.mp (hp.mem_iff.mp hi)
theorem relay {o : Obj} (ho : s.heap.get? S = some o) (hex : o.ExactSet) (hd : o.data = .set es ep t) (hr : es.toList = L.map (rowZ Z)) (sz : t.place.size = es.size) (dm : t.dummies = #[]) (fl : es.size ≤ t.mask) (nd : (L.map (·.2)).Nodup) (el : ∀ p ∈ L, Z.is p.2 p.1) (few : L.length < 64)
    {want M : Nat} (hw : SetTable.sizeAbove want - 1 = M) (hM : MaskOk M) (h2 : SetTable.sizeAbove want ≤ 128) (hn : L.length * 5 < M * 3) {Q : Unit → Shared → Prop}
    (q : ∀ h' L' es' ep' t', Heap.SameBut S s.heap h' → TabS Z S h' L' es' ep' t' → L'.Perm L → Q () { s with heap := h' }) : wpAny (model prog w) A (setRelay S want) Q E s := by
  have ln : es.size = L.length := by simpa using congrArg List.length hr
  have ft : t.fits es.size = true := by
    unfold SetTable.fits SetTable.fill
    rw [dm, Bool.and_eq_true, beq_iff_eq, decide_eq_true_eq]
    refine ⟨by omega, ?_⟩
    show t.place.size + 0 ≤ t.mask
    omega
  obtain ⟨t', order, e, hp, T, em, el', ep', ed⟩ := relaid_ok t (hs := es.map (·.1)) (wanted := want) hw hM (by rw [Array.size_map, ln]; omega)
  rw [Array.size_map, ln] at hp
  obtain ⟨L2, r1, r2, r3⟩ := picked order hr hp
  rw [← r3] at T
  have l2 : (order.filterMap (es[·]?)).size = es.size := by
    have a := congrArg List.length r1
    rw [Array.length_toList, List.length_map, r2.length_eq] at a
    omega
  rw [setRelay_eq]
  refine wpAny_bind (wpAny_setState_of ho hd ft ?_)
  dsimp only
  refine wp_if_neg (by rw [sizeLine_eq]; omega) ?_
  try refine wpAny_bind (wpAny_pure ?_)
  rw [e]
  dsimp only
  refine wpAny_bind (wp_if_neg (by rw [l2]; simp) ?_)
  try refine wpAny_bind (wpAny_pure ?_)
  refine wpAny_pure ?_
  dsimp only
  refine wpAny_storeSet_of ho hd ?_ (by rw [l2, ln, sizeLine_eq]; omega)
  have sb : Heap.SameBut S s.heap (s.heap.update S (Obj.putSet (order.filterMap (es[·]?)) t')) := Heap.SameBut.update ..
  refine q _ L2 (order.filterMap (es[·]?)) (ep + 1) t' sb ⟨⟨_, store_at ho hd, ⟨hex.1, hex.2.1, hex.2.2⟩, rfl⟩, r1, T, (r2.map (·.2)).nodup_iff.mpr nd, fun p m => el p (r2.mem_iff.mp m), ?_, by rw [r2.length_eq]; exact few⟩ r2
  rw [r2.length_eq, em]
  exact hn
end
end L2.EV
set_option Elab.async false
set_option linter.all false
set_option maxRecDepth 100000
set_option maxHeartbeats 4000000
namespace L2.EV
open PySem PySem.Spec PyProof.Rows L2
section
variable {prog : Program} {w : World} {A : Around} {h0 : Heap} {κ : Type} [DecidableEq κ] {Z : Elt prog w A h0 κ} {E : Value → Shared → Prop} {s : Shared} {S : Addr} {L : List (Addr × κ)} {es : Array (Int × Value)} {ep : Nat} {t : SetTable}
theorem add_new (R : TabS Z S s.heap L es ep t) (st : Std h0 s) {x : Addr} {k : κ} (hx : Z.is k x) (few : L.length + 1 < 64) {Q : Bool → Shared → Prop}
    (q : ∀ c h' L' es' ep' t', Heap.SameBut S s.heap h' → TabS Z S h' L' es' ep' t' → (k ∈ L.map (·.2) → L' = L) → (k ∉ L.map (·.2) → L'.Perm ((x, k) :: L)) → Q c { s with heap := h' }) : wpAny (model prog w) A (setAddHashed S (.ref x) (Z.hash k)) Q E s := by
  obtain ⟨o, ho, hex, hd⟩ := R.ob
  have ln := R.size; have rm := R.room
  unfold setAddHashed
  rw [show (100000 : Nat) = 99999 + 1 from rfl, setAddHashedIn_succ]
  refine wpAny_holding (wpAny_bind (wpAny_setState_of ho hd R.fits ?_))
  dsimp only
  refine wp_if_neg (by simp [byScan, Value.scannable]) ?_
  try refine wpAny_bind (wpAny_pure ?_)
  refine wpAny_bind (look R st hx (fun hm => ?_) fun K hm ke kb => ?_)
  · dsimp only
    exact wpAny_pure (q false s.heap L es ep t (Heap.SameBut.refl S s.heap) R (fun _ => rfl) fun z => absurd hm z)
  · dsimp only
    refine wpAny_bind (wpAny_setState_of ho hd R.fits ?_)
    dsimp only
    obtain ⟨q1, q2, q3, q4, q5, q6, q7, q8, q9⟩ := R.tab.put ke kb
    generalize t.put (way t.mask (Z.hash k) K) = pt at q1 q3 q4 q5 q6 q7 q8 q9 ⊢
    obtain ⟨t1, pp⟩ := pt
    dsimp only at q1 q3 q4 q5 q6 q7 q8 q9 ⊢
    subst q1
    have rows1 : (SetTable.insertAt es (SetTable.below t.place (way t.mask (Z.hash k) K)) (Z.hash k, Value.ref x)).toList = (L.take (SetTable.below t.place (way t.mask (Z.hash k) K)) ++ (x, k) :: L.drop (SetTable.below t.place (way t.mask (Z.hash k) K))).map (rowZ Z) := by
      rw [SetTable.toList_insertAt, R.rows, List.map_append, List.map_cons, List.map_take, List.map_drop]
    generalize SetTable.below t.place (way t.mask (Z.hash k) K) = b at q2 q3 rows1 ⊢
    have pm : (L.take b ++ (x, k) :: L.drop b).Perm ((x, k) :: L) := by
      have a := @List.perm_middle _ (x, k) (L.take b) (L.drop b)
      rwa [List.take_append_drop] at a
    have hh : (L.take b ++ (x, k) :: L.drop b).map (fun p => Z.hash p.2) = (L.map fun p => Z.hash p.2).take b ++ Z.hash k :: (L.map fun p => Z.hash p.2).drop b := by rw [List.map_append, List.map_cons, List.map_take, List.map_drop]
    rw [← hh] at q3
    have n1 : ((L.take b ++ (x, k) :: L.drop b).map (·.2)).Nodup := (pm.map (·.2)).nodup_iff.mpr (List.nodup_cons.mpr ⟨hm, R.nd⟩)
    generalize L.take b ++ (x, k) :: L.drop b = L1 at pm q3 n1 rows1
    generalize SetTable.insertAt es b (Z.hash k, Value.ref x) = es1 at rows1 ⊢
    have len1 : L1.length = L.length + 1 := pm.length_eq
    have sz1 : es1.size = L.length + 1 := by
      have a := congrArg List.length rows1
      rw [Array.length_toList, List.length_map] at a
      omega
    have el1 : ∀ p ∈ L1, Z.is p.2 p.1 := fun p hp => by
      rcases List.mem_cons.mp (pm.mem_iff.mp hp) with e | m
      · rw [e]; exact hx
      · exact R.el p m
    rw [List.length_map] at q9
    -- behind the question for the hash, whatever its answer
    have tail : ∀ t2 : SetTable, t2.mask = t1.mask → TabOk t2 (L1.map fun p => Z.hash p.2) → t2.fill = t1.fill →
        wpAny (model prog w) A (storeSet S es1 t2 >>= fun _ => if (!false && t2.tooFull) = true then (setRelay S (SetTable.grown (es.size + 1)) >>= fun _ => pure true) else pure true) Q E s := fun t2 m2 T2 f2 => by
      refine wpAny_bind (wpAny_storeSet_of ho hd ?_ (by rw [sz1, sizeLine_eq]; omega))
      have sb : Heap.SameBut S s.heap (s.heap.update S (Obj.putSet es1 t2)) := Heap.SameBut.update ..
      have ho1 := store_at (es' := es1) (t' := t2) ho hd
      generalize s.heap.update S (Obj.putSet es1 t2) = h1 at sb ho1 ⊢
      by_cases full : t2.tooFull = true
      · refine wp_if_pos (by simp [full]) (wpAny_bind ?_)
        have fl : (L.length + 1) * 5 ≥ t2.mask * 3 := by
          have a := full
          unfold SetTable.tooFull at a
          rw [decide_eq_true_eq, f2, q9] at a
          exact a
        have ps : t2.place.size = es1.size := by
          have a := T2.sz
          rw [List.length_map] at a
          omega
        rw [ln]
        have two : (t.mask = 7 ∧ L.length = 4) ∨ (t.mask = 31 ∧ L.length = 18) := by
          rw [m2, q4] at fl
          rcases R.tab.mok with e | e | e
          · exact .inl ⟨e, by omega⟩
          · exact .inr ⟨e, by omega⟩
          · omega
        have go : ∀ M, SetTable.sizeAbove (SetTable.grown (L.length + 1)) - 1 = M → MaskOk M → SetTable.sizeAbove (SetTable.grown (L.length + 1)) ≤ 128 → (L.length + 1) * 5 < M * 3 →
            wpAny (model prog w) A (setRelay S (SetTable.grown (L.length + 1))) (fun _ s' => wpAny (model prog w) A (pure true) Q E s') E { s with heap := h1 } := fun M e1 e2 e3 e4 =>
          relay (Z := Z) (s := { s with heap := h1 }) ho1 ⟨hex.1, hex.2.1, hex.2.2⟩ rfl rows1 ps T2.dm (by rw [sz1, m2, q4]; rcases two with ⟨a, b⟩ | ⟨a, b⟩ <;> omega) n1 el1 (by omega) e1 e2 e3 (by omega)
            fun h2 L2 es2 ep2 t3 sb2 R2 pm2 => wpAny_pure (q true h2 L2 es2 ep2 t3 (sb.trans sb2) R2 (fun z => absurd z hm) fun _ => pm2.trans pm)
        rcases two with ⟨_, e⟩ | ⟨_, e⟩
        · exact go 31 (by rw [e, size_20]) (.inr (.inl rfl)) (by rw [e, size_20]; decide) (by omega)
        · exact go 127 (by rw [e, size_76]) (.inr (.inr rfl)) (by rw [e, size_76]; decide) (by omega)
      · refine wp_if_neg (by simp [full]) (wpAny_pure (q true h1 L1 es1 (ep + 1) t2 sb ⟨⟨_, ho1, ⟨hex.1, hex.2.1, hex.2.2⟩, rfl⟩, rows1, T2, n1, el1, ?_, by omega⟩ (fun z => absurd z hm) fun _ => pm))
        have a := full
        unfold SetTable.tooFull at a
        rw [decide_eq_true_eq, f2, q9] at a
        rw [len1]
        omega
    by_cases pl : t1.plain = true
    · refine wp_if_pos pl (wpAny_bind (Z.byv hx st fun c => ?_))
      cases c with
      | true => exact tail t1 rfl q3 rfl
      | false => exact tail _ rfl ⟨q3.ris, q3.dm, q3.sz, q3.mok, q3.bd, q3.reach⟩ rfl
    · exact wp_if_neg pl (wpAny_bind (wpAny_pure (tail t1 rfl q3 rfl)))
end
end L2.EV
set_option Elab.async false
set_option linter.all false
set_option maxRecDepth 100000
set_option maxHeartbeats 4000000
namespace L2.EV
open PySem PySem.Spec PyProof.Rows L2
section
variable {prog : Program} {w : World}
def ByvAt (prog : Program) (w : World) (n : Nat) (s : Shared) (v : Value) : Prop := ∀ (A : Around) (E : Value → Shared → Prop) (Q : Bool → Shared → Prop), (∀ c, Q c s) → wpAny (model prog w) A (hashByValue n v) Q E s
theorem byv_tup {n : Nat} {s : Shared} {a : Addr} {o : Obj} {vs : Array Value} {m : Nat} (ho : s.heap.get? a = some o) (hc : o.cls = .type "tuple") (hd : o.data = .seq vs m) (hq : ∀ v ∈ vs.toList, ByvAt prog w n s v) : ByvAt prog w (n + 1) s (.ref a) := fun A E Q h => by
  have ty : s.TypeIs (.ref a) "tuple" := ⟨o, ho, hc⟩
  unfold hashByValue
  refine wpAny_bind (wpAny_specialOf ty F.slot_tuple_hash.lookup ?_)
  show wpAny _ _ (seqItems? (.ref a) >>= _) _ _ s
  refine wpAny_bind (wpAny_seqItems ho hd (wpAny_bind ?_))
  show wpAny _ _ (forIn vs _ _) _ _ s
  rw [← Array.forIn_toList]
  refine wpAny_forIn_list _ (fun left acc t => t = s ∧ ∀ v ∈ left, ByvAt prog w n s v) _ (fun v left acc t ⟨h2, h3⟩ => ?_) (fun acc t h1 => ?_) _ _ ⟨rfl, hq⟩
  · subst h2
    refine wpAny_bind (h3 v List.mem_cons_self _ _ _ fun c => ?_)
    cases c with
    | true =>
      simp only [Bool.not_true, Bool.false_eq_true, if_false]
      exact wpAny_pure ⟨rfl, fun u hu => h3 u (List.mem_cons_of_mem _ hu)⟩
    | false =>
      simp only [Bool.not_false, if_true]
      exact wpAny_pure (wpAny_pure (h false))
  · obtain ⟨h2, _⟩ := h1
    subst h2
    obtain ⟨a1, a2⟩ := acc
    cases a1 with
    | none => exact wpAny_pure (h true)
    | some c => exact wpAny_pure (h c)
mutual
theorem byv_key : ∀ (k : NestedKey) (v : Value) (n : Nat) (s : Shared), NestedIs s.heap k v → k.depth ≤ n → ByvAt prog w n s v
  | .none, _, n, s, x, _ => by cases x; exact fun A E Q h => by cases n <;> exact wpAny_pure (h true)
  | .num i, _, n, s, x, _ => by cases x <;> exact fun A E Q h => by cases n <;> exact wpAny_pure (h true)
  | .text y, _, n, s, x, _ => by cases x; exact fun A E Q h => by cases n <;> exact wpAny_pure (h false)
  | .tup ks, _, n, s, x, hn => by
    cases x with
    | tup hg hc hd hk =>
      simp only [NestedKey.depth] at hn
      cases n with
      | zero => omega
      | succ n => exact byv_tup hg hc hd (byv_keys ks _ n s hk (by omega))
theorem byv_keys : ∀ (ks : List NestedKey) (vs : List Value) (n : Nat) (s : Shared), NestedAll s.heap ks vs → NestedKey.depthAll ks ≤ n → ∀ v ∈ vs, ByvAt prog w n s v
  | [], _, n, s, x, _, v, hv => by cases x; cases hv
  | k :: ks, _, n, s, x, hn, v, hv => by
    cases x with
    | cons x1 x2 =>
      simp only [NestedKey.depthAll] at hn
      rcases List.mem_cons.mp hv with e | hv
      · rw [e]; exact byv_key k _ n s x1 (by omega)
      · exact byv_keys ks _ n s x2 (by omega) v hv
end
/-- nested tuples that stand in h0 -/
def nestE (prog : Program) (w : World) (A : Around) (h0 : Heap) (hu : A.units + 8 < cLine) : Elt prog w A h0 NestedKey where
  is := fun k a => NestedIs h0 k (.ref a) ∧ k.depth ≤ 8
  hash := fun k => k.hash w
  pyh := fun hk st h => pyHash_key _ _ _ _ _ (NestedIs.at (fun a o vs n e _ => st a o e) _ _ hk.1) (by have := hk.2; omega) (h _ (Nat.le_add_right _ _))
  eq := fun {x y a b s E Q} hx hy st h => eqAt_key x y A s _ _ (NestedIs.at (fun a o vs n e _ => st a o e) _ _ hx.1) (NestedIs.at (fun a o vs n e _ => st a o e) _ _ hy.1) (by have := hx.2; omega) _ _ _ _ (by rw [← NestedKey.decide_eq]; exact h)
  quiet := fun hk st h => quiet_key _ _ 8 _ (NestedIs.at (fun a o vs n e _ => st a o e) _ _ hk.1) hk.2 _ _ _ h
  plain := fun hk st h => plain_key _ _ 8 _ (NestedIs.at (fun a o vs n e _ => st a o e) _ _ hk.1) hk.2 _ _ _ h
  byv := fun hk st h => byv_key _ _ 8 _ (NestedIs.at (fun a o vs n e _ => st a o e) _ _ hk.1) hk.2 _ _ _ h
end
/-! ### a set filled from a list of such things -/
section
variable {prog : Program} {w : World} {A : Around} {h0 : Heap} {κ : Type} [DecidableEq κ] {Z : Elt prog w A h0 κ} {S : Addr} {items : Array Value} {ks : List κ}
def BagE (Z : Elt prog w A h0 κ) (S : Addr) (ks : List κ) (i : Nat) (h : Heap) : Prop := ∃ L es ep t, TabS Z S h L es ep t ∧ L.length = dist (ks.take i) ∧ ∀ k, k ∈ L.map (·.2) ↔ k ∈ ks.take i
theorem bag_elts (hn : ks.length = items.size) (few : items.size < 64) (hv : ∀ (i : Nat) (v : Value) (k : κ), items[i]? = some v → ks[i]? = some k → ∃ a, v = .ref a ∧ Z.is k a) : Bag prog w A S h0 (fun i v => items[i]? = some v) items.size (BagE Z S ks) where
  stay := fun i h h' ⟨L, es, ep, t, R, r⟩ k _ => by
    obtain ⟨o, ho, rest⟩ := R.ob
    exact ⟨L, es, ep, t, ⟨⟨o, k o ho, rest⟩, R.rows, R.tab, R.nd, R.el, R.room, R.few⟩, r⟩
  put := fun i v s E Q lt pv ⟨L, es, ep, t, R, ll, lm⟩ st q => by
    have ei : ks[i]? = some (ks[i]'(by omega)) := List.getElem?_eq_getElem _
    obtain ⟨a, rfl, hk⟩ := hv i v _ pv ei
    generalize ks[i]'(by omega) = y at ei hk
    have et : ks.take (i + 1) = ks.take i ++ [y] := by rw [List.take_succ, ei]; rfl
    have dl := dist_le (ks.take i)
    rw [List.length_take] at dl
    unfold setAdd
    refine wpAny_holding (wpAny_bind (Z.pyh hk st fun tk le => ?_))
    refine add_new (Z := Z) (s := { s with toks := tk }) R st hk (by omega) fun c h' L' es' ep' t' sb R' h1 h2 => q c h' tk le sb ⟨L', es', ep', t', R', ?_, fun z => ?_⟩
    · rw [et, dist_snoc]
      by_cases m : y ∈ ks.take i
      · rw [if_pos m, h1 ((lm y).mpr m), ll]
      · rw [if_neg m, (h2 fun z => m ((lm y).mp z)).length_eq, List.length_cons, ll]
    · rw [et, List.mem_append, List.mem_singleton]
      by_cases m : y ∈ ks.take i
      · rw [h1 ((lm y).mpr m), lm z]
        exact ⟨.inl, fun e => e.elim id fun e => by rw [e]; exact m⟩
      · rw [((h2 fun z => m ((lm y).mp z)).map (·.2)).mem_iff, List.map_cons, List.mem_cons, lm z]
        exact ⟨fun e => e.elim .inr .inl, fun e => e.elim .inr .inl⟩
end
end L2.EV
set_option Elab.async false
set_option linter.all false
set_option maxRecDepth 100000
set_option maxHeartbeats 4000000
namespace L2.EV
open PySem PySem.Spec PyProof.Rows L2
/-! ### len(set(xs)) of tracked nested tuples -/
mutual
inductive NK (H : Hp) : V → NestedKey → Prop
  | int (i : Int) : NK H (.int i) (.num i)
  | str (x : Str) : NK H (.str x) (.text x)
  | tup {a : Addr} {xs : List V} {ks : List NestedKey} : H a = some (.tup xs) → NKs H xs ks → NK H (.ref a) (.tup ks)
inductive NKs (H : Hp) : List V → List NestedKey → Prop
  | nil : NKs H [] []
  | cons {v : V} {vs : List V} {k : NestedKey} {ks : List NestedKey} : NK H v k → NKs H vs ks → NKs H (v :: vs) (k :: ks)
end
section
variable {X : Cx} {pins : List (Addr × Obj)} {σ : St} {H : Hp} {s : Shared}
mutual
theorem NK.is (I : Inv X pins σ H s) : ∀ {v : V} {k : NestedKey} {u : Value}, NK H v k → RelV v u → NestedIs s.heap k u
  | _, _, _, .int i, r => by
    obtain ⟨t, rfl⟩ := r
    exact .int i t
  | _, _, _, .str x, r => by
    obtain ⟨t, rfl⟩ := r
    exact .text x t
  | _, _, _, .tup h hs, r => by
    cases r
    obtain ⟨its, rv, ⟨o, ho, hc, n, hd⟩, _⟩ := I.tuple (SqT.of h)
    exact .tup ho hc hd (by simpa using NKs.is I hs rv)
theorem NKs.is (I : Inv X pins σ H s) : ∀ {vs : List V} {ks : List NestedKey} {us : List Value}, NKs H vs ks → Vals vs us → NestedAll s.heap ks us
  | _, _, _, .nil, r => by cases r; exact .nil
  | _, _, _, .cons h hs, r => by
    cases r with
    | cons r1 r2 => exact .cons (NK.is I h r1) (NKs.is I hs r2)
end
/-- at p: a set of n elements -/
def SetN (p : Addr) (n : Nat) : HO := .ext fun h => ∃ o es ep t, h.get? p = some o ∧ o.ExactSet ∧ o.data = .set es ep t ∧ t.fits es.size = true ∧ es.size = n ∧ n < 64
def rSetNest (K : PySem.W.Frag) : List V → Hp → VK → Prop := fun xs H Q => ∃ (l : Addr) (ys : List V) (ks : List NestedKey), xs = [.ref l] ∧ SqL K H l ys ∧ ys.length < 64 ∧ ks.length = ys.length ∧
  (∀ (i : Nat) (y : V) (k : NestedKey), ys[i]? = some y → ks[i]? = some k → (∃ a, y = .ref a) ∧ NK H y k ∧ k.depth ≤ 8) ∧ ∀ p, H p = none → Q (.ref p) (upd H p (SetN p (dist ks)))
theorem cr_setNest (hc : X.calm = true) (hu : X.A.units + 40 < cLine) : CallR X (.type "set") (rSetNest X.K) := by
  intro pins s σ H xs us Q I r h
  obtain ⟨l, ys, ks, rfl, hq, hn, hk, hy, q⟩ := h
  obtain ⟨u, rfl, rx⟩ := vals1 r
  cases rx
  obtain ⟨its, rv, pl, _⟩ := I.list hq
  have hl : its.toArray.size = ks.length := by rw [List.size_toArray, ← rv.length, hk]
  have hu3 : X.A.in1.in1.in1.units + 8 < cLine := by
    have e : X.A.in1.in1.in1.units = X.A.units + 3 := rfl
    omega
  refine bag_call (T := BagE (nestE X.prog X.w X.A.in1.in1.in1 s.heap hu3) s.heap.objs.size ks) (I.ok.hd hc) pl.isList (bag_elts hl.symm (by omega) fun i v k h1 h2 => ?_) (fun h' e => ?_) fun h' tk t kp => ?_
  · have h1' : its[i]? = some v := by simpa using h1
    obtain ⟨y, hy0, ry⟩ : ∃ y, ys[i]? = some y ∧ RelV y v := by
      have hi : i < ys.length := by
        have := (List.getElem?_eq_some_iff.mp h1').1
        have := rv.length
        omega
      obtain ⟨v', e1, e2⟩ := rv.get (List.getElem?_eq_getElem hi)
      rw [h1'] at e1
      cases e1
      exact ⟨_, List.getElem?_eq_getElem hi, e2⟩
    obtain ⟨⟨a, rfl⟩, nk, dp⟩ := hy i y k hy0 h2
    cases ry
    exact ⟨a, rfl, nk.is I rfl, dp⟩
  · refine ⟨[], #[], 0, _, ⟨⟨_, e, ⟨rfl, rfl, rfl⟩, rfl⟩, rfl, ⟨List.Pairwise.nil, rfl, rfl, .inl rfl, fun x hx => (by cases hx), fun i h j hi => (by simp at hi)⟩, List.nodup_nil, fun p hp => (by cases hp), ?_, ?_⟩, rfl, fun k => ?_⟩
    · show 0 * 5 < 7 * 3
      decide
    · show 0 < 64
      decide
    · rw [List.take_zero]
      exact Iff.rfl
  · obtain ⟨L, es, ep, t', R, ll, _⟩ := t
    rw [hl, List.take_length] at ll
    obtain ⟨o, ho, hex, hd⟩ := R.ob
    have ft : t'.fits es.size = true := TabS.fits (s := { s with heap := h' }) R
    have sz : es.size = L.length := TabS.size (s := { s with heap := h' }) R
    have few := R.few
    refine ⟨.ref s.heap.objs.size, _, I.laid (t' := tk) kp (Nat.le_refl _) (show ObjOk X.prog X.w _ h' _ (SetN s.heap.objs.size (dist ks)) from ⟨⟨o, es, ep, t', ho, hex, hd, ft, by omega, by omega⟩, ⟨o, ho⟩, fun h1 h2 z kk => ?_⟩), rfl, q _ (I.hok.fresh (Nat.le_refl _))⟩
    obtain ⟨o1, es1, ep1, t1, a1, a2⟩ := z
    exact ⟨o1, es1, ep1, t1, kk o1 a1, a2⟩
end
end L2.EV
set_option Elab.async false
set_option linter.all false
set_option maxRecDepth 100000
set_option maxHeartbeats 4000000
namespace L2.EV
open PySem PySem.Spec PyProof.Rows L2
def rLenN : List V → Hp → VK → Prop := fun xs H Q => ∃ (a : Addr) (n : Nat), xs = [.ref a] ∧ H a = some (SetN a n) ∧ Q (.int (n : Int)) H
theorem cr_lenN {X : Cx} : CallR X (.builtin "len") rLenN := by
  intro pins s σ H xs us Q I r h
  obtain ⟨a, n, rfl, ha, q⟩ := h
  obtain ⟨u, rfl, rx⟩ := vals1 r
  cases rx
  have so : ∃ o es ep t, s.heap.get? a = some o ∧ o.ExactSet ∧ o.data = .set es ep t ∧ t.fits es.size = true ∧ es.size = n ∧ n < 64 := (I.hok a _ ha).1
  obtain ⟨o, es, ep, t, ho, hex, hd, hf, hn, h64⟩ := so
  exact call_len_set ho hex hd hf (by omega) ⟨.int (n : Int), H, I.tok _, ⟨_, by rw [hn]⟩, q⟩
end L2.EV
namespace L2.K03
open PySem PySem.Spec PyProof.Rows L2.EV
/-! ### unlike things: texts, nested tuples -/
/-- the nested tuples ks at ys -/
def NKeys (H : Hp) (ys : List V) (ks : List NestedKey) : Prop := ks.length = ys.length ∧ ∀ (i : Nat) (y : V) (k : NestedKey), ys[i]? = some y → ks[i]? = some k → (∃ a, y = .ref a) ∧ NK H y k ∧ k.depth ≤ 8
def spUn : Sp := fun vs H Q E => spUnT vs H Q E ∨ ∃ (l : Addr) (ys : List V) (ks : List NestedKey), vs = [.ref l] ∧ H l = some (.lst ys) ∧ ys.length < 64 ∧ NKeys H ys ks ∧ ∀ H', Same H H' → Q (.bl (decide ks.Nodup)) H'
section
variable {P : Program} {w : World} {K : PySem.W.Frag} {mg : Str → Option Value} {base : Heap} {f : Addr} {fd : FuncData}
theorem ok_un (F : FnP K "are_unlike" sUn f fd) (mL : mg "len" = none) (mS : mg "set" = none) : FnOk P w K mg base CX0 1 f fd ["values"] spUn := by
  refine F.ok scUn (fun vs H Q E h => ?_) (fun cdv A outer s H vs Q E hr h => ?_)
  · rcases h with ⟨l, ws, rfl, _⟩ | ⟨l, ys, ks, rfl, _⟩ <;> rfl
  · have hu : (A.deeper (envOfC "are_unlike" (defScope sUn) s.heap.objs.size f cdv)).units + 40 < cLine := by
      have := hr.un
      omega
    have one : ∃ l, vs = [.ref l] := by
      rcases h with ⟨l, ws, e, _⟩ | ⟨l, ys, ks, e, _⟩ <;> exact ⟨l, e⟩
    obtain ⟨l0, rfl⟩ := one
    refine ⟨_, PSs.nox (pss_one (ps_ret (pe_cmpR op_eq (pe_callB (CallR.or cr_lenSet cr_lenN) (by rfl) mL PySem.boot_len (pa_cons (pe_callTy (CallR.or (cr_setTx rfl) (cr_setNest rfl hu)) (by rfl) mS (by decide +kernel) (pa_cons (pv 0) pa_nil)) pa_nil))
      (pe_callB call_len_seq (by rfl) mL PySem.boot_len (pa_cons (pv 0) pa_nil)) (nomark _)))), ?_⟩
    rcases h with ⟨l, ws, e, hl, hn, q⟩ | ⟨l, ys, ks, e, hl, hn, hk, q⟩
    · cases e
      refine ⟨_, rfl, .inl ⟨l0, ws, rfl, SqL.of hl, hn, fun p hp => .inl ⟨p, _, _, rfl, upd_same, ?_⟩⟩⟩
      have s1 : Same H (upd H p (SetK P w p (inK (keysT ws)) (dist (keysT ws)))) := same_upd hp
      refine ⟨_, rfl, l0, _, rfl, .inl (SqL.of (s1 _ _ hl)), rfl, ?_⟩
      have e : decide (V.int (dist (keysT ws) : Int) = V.int ((ws.map V.str).length : Int)) = decide ws.Nodup := by
        rw [List.length_map]
        have d := dist_iff (keysT ws)
        rw [List.length_map, inr_inj] at d
        by_cases h : ws.Nodup
        · rw [decide_eq_true h, decide_eq_true (by rw [d.mpr h])]
        · rw [decide_eq_false h, decide_eq_false fun z => h (d.mp (by injection z with z; omega))]
      rw [e]
      exact q _ s1
    · cases e
      refine ⟨_, rfl, .inr ⟨l0, ys, ks, rfl, SqL.of hl, hn, hk.1, hk.2, fun p hp => .inr ⟨p, _, rfl, upd_same, ?_⟩⟩⟩
      have s1 : Same H (upd H p (SetN p (dist ks))) := same_upd hp
      refine ⟨_, rfl, l0, _, rfl, .inl (SqL.of (s1 _ _ hl)), rfl, ?_⟩
      have e : decide (V.int (dist ks : Int) = V.int (ys.length : Int)) = decide ks.Nodup := by
        have d := dist_iff ks
        rw [hk.1] at d
        by_cases h : ks.Nodup
        · rw [decide_eq_true h, decide_eq_true (by rw [d.mpr h])]
        · rw [decide_eq_false h, decide_eq_false fun z => h (d.mp (by injection z with z; omega))]
      rw [e]
      exact q _ s1
end
end L2.K03
set_option Elab.async false
set_option linter.all false
set_option maxRecDepth 100000
set_option maxHeartbeats 4000000
namespace L2.K03
open PySem PySem.Spec PyProof.Rows L2.EV
/-- the form of a manner that stays told (H' any later heap) -/
def ManL (K : PySem.W.Frag) (H : Hp) (v : V) (r : Bool) : Prop := ∀ H', Same H H' → ManF K H' v r
theorem ManL.same {K : PySem.W.Frag} {H H' : Hp} {v : V} {r : Bool} (h : ManL K H v r) (s : Same H H') : ManL K H' v r := fun H2 s2 => h H2 (s.trans s2)
mutual
theorem nk_same {H H' : Hp} (s : Same H H') : ∀ {v : V} {k : NestedKey}, NK H v k → NK H' v k
  | _, _, .int i => .int i
  | _, _, .str x => .str x
  | _, _, .tup h t => .tup (s _ _ h) (nks_same s t)
theorem nks_same {H H' : Hp} (s : Same H H') : ∀ {vs : List V} {ks : List NestedKey}, NKs H vs ks → NKs H' vs ks
  | _, _, .nil => .nil
  | _, _, .cons h t => .cons (nk_same s h) (nks_same s t)
end
theorem NKeys.same {H H' : Hp} {ys : List V} {ks : List NestedKey} (h : NKeys H ys ks) (s : Same H H') : NKeys H' ys ks := ⟨h.1, fun i y k a b => ⟨(h.2 i y k a b).1, nk_same s (h.2 i y k a b).2.1, (h.2 i y k a b).2.2⟩⟩
inductive MannersF (K : PySem.W.Frag) (H : Hp) : V → Bool → Prop
  | no {v : V} {t : Value} : TyX K H v t → PySem.W.kitOne K t (.type "list") = some false → MannersF K H v false
  | bad {a : Addr} {xs : List V} {rs : List Bool} : H a = some (.lst xs) → xs.length ≤ 900 → rs.length = xs.length → (∀ (i : Nat) (x : V) (r : Bool), xs[i]? = some x → rs[i]? = some r → ManL K H x r) → rs.all id = false → MannersF K H (.ref a) false
  | good {a : Addr} {xs : List V} {ks : List NestedKey} : H a = some (.lst xs) → xs.length < 64 → (∀ x ∈ xs, ManL K H x true) → NKeys H xs ks → MannersF K H (.ref a) (decide ks.Nodup)
abbrev sMsF : Stmt := top 18
abbrev nMsF : List Str := ["value", "manner"]
theorem scMsF : FnScope nMsF ["value"] (defScope sMsF) := ⟨rfl, rfl, rfl, by decide +kernel, rfl, by decide +kernel, by decide +kernel⟩
def spMsF (K : PySem.W.Frag) : Sp := fun vs H Q _ => ∃ v r, vs = [v] ∧ MannersF K H v r ∧ ∀ H', Same H H' → Q (.bl r) H'
section
variable {P : Program} {w : World} {K : PySem.W.Frag} {mg : Str → Option Value} {base : Heap} {f : Addr} {fd : FuncData}
theorem ok_msf (F : FnP K "has_manners_form" sMsF f fd) (GM : Got P w K mg base 3 "has_manner_form" ["value"] (spMF K)) (GU : Got P w K mg base 1 "are_unlike" ["values"] spUn) (mIs : mg "isinstance" = none) (mLi : mg "list" = none) (mA : mg "all" = none) :
    FnOk P w K mg base CX0 4 f fd ["value"] (spMsF K) := by
  refine F.ok scMsF (fun vs H Q E h => ?_) (fun cdv A outer s H vs Q E hr h => ?_)
  · obtain ⟨v, r, rfl, _⟩ := h
    rfl
  · obtain ⟨v, r, rfl, h, q⟩ := h
    refine ⟨_, PSs.nox (pss_cons (ps_if (PW.pt (pw_or (pt_not (pt_val (pe_callB call_isi (by rfl) mIs (by decide +kernel) (pa_cons (pv 0) (pa_cons (pe_bltn (v := .ty "list") (u := .type "list") (by rfl) mLi (by decide +kernel) rfl) pa_nil)))))
        (pw_or1 (pt_not (pt_val (pe_callB (cr_all rfl) (by rfl) mA (by decide +kernel) (pa_cons
          (pe_lc (own := [("manner", 1)]) (g := gName 1) (tt := tYes) (by rfl) scMsF.nd (pi_list (pv 0)) (blkOk_by (own := [("manner", 1)]) (N := nMsF) (sc := defScope sMsF) (by decide +kernel))
            (fun _ _ _ _ _ => pg_name (i := 1) scMsF.nd rfl (Or.inl rfl)) (fun _ _ _ _ _ => pts_nil) (fun _ _ _ _ _ => pe_got GM hr (pa_cons (pv 1) pa_nil))) pa_nil))))))) (pss_one (ps_ret pe_bl)) pss_nil)
      (pss_one (ps_ret (pe_got GU hr (pa_cons (pv 0) pa_nil))))), ?_⟩
    have walk : ∀ {a : Addr} {xs : List V} {rs : List Bool} {Qd : Hp → Prop} {D : Addr}, H a = some (.lst xs) → xs.length ≤ 900 → rs.length = xs.length → (∀ (i : Nat) (x : V) (r : Bool), xs[i]? = some x → rs[i]? = some r → ManL K H x r) → H D = none →
        (∀ H', Same H H' → H' D = some (.lst (rs.map V.bl)) → Qd H') → _ := fun {a xs rs Qd D} ha hn hl hs hD hq =>
      lc_list (K := K) (a := a) (xs := xs) (g := gName 1) (tt := tYes) (te := tCall (spMF K) [] E0 (tCons (tVar 1) tNil)) (vs := [1]) (σ := start nMsF [.ref a]) (H1 := H) (D := D) (Qd := Qd) (fun i H' => Same H H' ∧ H' D = some (.lst ((rs.take i).map V.bl))) ⟨same_upd hD, upd_same⟩ (fun i H' _ ⟨sA, _⟩ => SqL.of (sA _ _ ha))
        (fun i x H' hx ⟨sA, gA⟩ => by
          obtain ⟨r, hr'⟩ := at_of_len hl hx
          refine ⟨rfl, ?_⟩
          dsimp only [tYes]
          rw [if_pos rfl]
          refine ⟨_, rfl, x, r, rfl, hs i x r hx hr' _ sA, fun H2 s2 => ?_⟩
          exact ans_step hD (sA.trans s2) (s2 _ _ gA) hr' (by omega))
        (fun H' ⟨sA, gA⟩ => hq H' sA (by rw [← hl, List.take_length] at gA; exact gA))
    cases h with
    | no ty k => exact ⟨_, rfl, v, .ty "list", _, _, false, rfl, .ty _, ty, k, false, rfl, iteT (iteT (q _ (Same.refl H)))⟩
    | @bad a xs rs ha hn hl hs hf =>
      refine ⟨_, rfl, .ref a, .ty "list", _, _, true, rfl, .ty _, .base (.lst ha), kit_ty (by decide +kernel), true, rfl, iteF ⟨_, rfl, a, rfl, ⟨_, SqL.of ha⟩, fun D hD => walk ha hn hl hs hD fun H2 sA gA => ⟨D, rs, rfl, SqL.of gA, _, rfl, ?_⟩⟩⟩
      rw [hf]
      exact iteT (q _ sA)
    | @good a xs ks ha hn hm hk =>
      refine ⟨_, rfl, .ref a, .ty "list", _, _, true, rfl, .ty _, .base (.lst ha), kit_ty (by decide +kernel), true, rfl, iteF ⟨_, rfl, a, rfl, ⟨_, SqL.of ha⟩, fun D hD => walk (rs := List.replicate xs.length true) ha (by omega) (by simp) (fun i x r h1 h2 => ?_) hD fun H2 sA gA => ⟨D, _, rfl, SqL.of gA, _, rfl, ?_⟩⟩⟩
      · have er : r = true := (List.mem_replicate.mp (List.mem_of_getElem? h2)).2
        rw [er]
        exact hm x (List.mem_of_getElem? h1)
      · rw [show (List.replicate xs.length true).all id = true by simp]
        exact iteF ⟨_, rfl, .inr ⟨a, xs, ks, rfl, sA _ _ ha, hn, hk.same sA, fun H3 s3 => q _ (sA.trans s3)⟩⟩
end
end L2.K03
set_option Elab.async false
set_option linter.all false
set_option maxRecDepth 100000
set_option maxHeartbeats 4000000
namespace L2.EV
open PySem PySem.Spec PyProof.Rows
/-! ### sorted(xs) of alike data, any length -/
/-- the items with their data, sorted by these -/
abbrev srtOf (bs : List (V × PyData)) : List (V × PyData) := bs.mergeSort (PySem.W.dataLe false Prod.snd)
/-- sorted(xs): bs tells the items of xs, each with its datum; the new list holds srtOf bs -/
def rSortedDp (K : PySem.W.Frag) : List V → Hp → VK → Prop := fun vs H Q => ∃ (a : Addr) (bs : List (V × PyData)), vs = [V.ref a] ∧ SqL K H a (bs.map Prod.fst) ∧ DpAll K H (bs.map Prod.fst) (bs.map Prod.snd) ∧
  PySem.W.AllAlike (bs.map Prod.snd) ∧ PySem.W.Sortable (bs.map Prod.snd) ∧ (∀ b ∈ bs, b.2.depth ≤ 32) ∧ ∀ p, H p = none → Q (.ref p) (upd H p (.lst ((srtOf bs).map Prod.fst)))
theorem each_of_vals : ∀ {bs : List (V × PyData)} {its : List Value}, Vals (bs.map Prod.fst) its → PySem.W.EachIs (fun u b => RelV b.1 u) its bs
  | [], [], _ => .nil
  | [], _ :: _, h => by cases h
  | b :: bs, us, h => by
    cases h with
    | cons h1 h2 => exact .cons h1 (each_of_vals h2)
theorem vals_of_each : ∀ {bs : List (V × PyData)} {its : List Value}, PySem.W.EachIs (fun u b => RelV b.1 u) its bs → Vals (bs.map Prod.fst) its
  | [], _, .nil => .nil
  | _ :: _, _, .cons h1 h2 => .cons h1 (vals_of_each h2)
theorem cr_sortedDp {X : Cx} (hu : X.A.units + 64 < cLine) : CallR X (.builtin "sorted") (rSortedDp X.K) := by
  intro pins s σ H vs us Q I r h
  obtain ⟨a, bs, rfl, hs, hd, hal, hk, hdep, q⟩ := h
  obtain ⟨its, rv, hl, hz⟩ := I.list hs
  obtain ⟨u, rfl, ru⟩ := vals1 r
  obtain rfl : u = Value.ref a := ru
  obtain ⟨as, rd⟩ := Dp.readsAll I _ _ _ hd rv
  rw [List.length_map] at hz
  refine PySem.W.sorted_data (enc := Prod.snd) hl.isList (each_of_vals rv) (PySem.W.readsAll_each Prod.snd rd) hal hk hz (fun b hb => ?_) fun out hlen he => ?_
  · have := hdep b hb
    omega
  · have hv := vals_of_each he
    have z : out.length ≤ sizeLine := by rw [hlen]; exact hz
    obtain ⟨n, hn⟩ := sortedAll_at s.heap its out.toArray
    refine ⟨.ref (s.heap.objs.size + 1), upd H (s.heap.objs.size + 1) (.lst ((srtOf bs).map Prod.fst)), I.laid (t' := s.toks) (fun b o e => sortedAll_old e) (Nat.le_succ _) ⟨?_, out, n, hv, hn⟩, rfl, q _ (I.hok.fresh (Nat.le_succ _))⟩
    rw [hv.length]
    exact z
/-! ### what comes of it -/
theorem dle_total : PySem.W.TotalLe (PySem.W.dataLe false (id : PyData → PyData)) := PySem.W.sortLe_total _ _ _
/-- the data, sorted -/
theorem srtOf_snd (bs : List (V × PyData)) : (srtOf bs).map Prod.snd = (bs.map Prod.snd).mergeSort (PySem.W.dataLe false id) := List.map_mergeSort fun a _ b _ => rfl
theorem srtOf_perm (bs : List (V × PyData)) : (srtOf bs).Perm bs := List.mergeSort_perm _ _
/-- two rearrangements of the same data, no two of one place, are sorted alike -/
theorem sort_uniq {l m : List PyData} (p : l.Perm m) (h : ∀ x ∈ l, ∀ y ∈ l, PySem.W.keyToks x = PySem.W.keyToks y → x = y) : l.mergeSort (PySem.W.dataLe false id) = m.mergeSort (PySem.W.dataLe false id) := by
  have tr := fun a b c => dle_total.trans a b c
  have to : ∀ a b : PyData, (PySem.W.dataLe false id a b || PySem.W.dataLe false id b a) = true := fun a b => by
    rcases dle_total.total a b with e | e
    · rw [e, Bool.true_or]
    · rw [e, Bool.or_true]
  refine List.Perm.eq_of_pairwise (le := fun a b => PySem.W.dataLe false id a b = true) (fun a b ha hb e1 e2 => ?_) (List.pairwise_mergeSort tr to l) (List.pairwise_mergeSort tr to m) ((List.mergeSort_perm l _).trans (p.trans (List.mergeSort_perm m _).symm))
  have ha' : a ∈ l := (List.mergeSort_perm l _).mem_iff.mp ha
  have hb' : b ∈ l := p.mem_iff.mpr ((List.mergeSort_perm m _).mem_iff.mp hb)
  have f1 : (listOrd itemOrd).blt (PySem.W.keyToks b) (PySem.W.keyToks a) = false := by simpa using (show (!(listOrd itemOrd).blt (PySem.W.keyToks b) (PySem.W.keyToks a)) = true from e1)
  have f2 : (listOrd itemOrd).blt (PySem.W.keyToks a) (PySem.W.keyToks b) = false := by simpa using (show (!(listOrd itemOrd).blt (PySem.W.keyToks a) (PySem.W.keyToks b)) = true from e2)
  exact h a ha' b hb' ((listOrd itemOrd).total _ _ f2 f1)
end L2.EV
set_option Elab.async false
set_option linter.all false
set_option maxRecDepth 100000
set_option maxHeartbeats 4000000
namespace L2.K03
open PySem PySem.Spec PyProof.Rows L2.EV
/-! ### manners and words, sorted -/
theorem alike_ef (e d : Ef) : PySem.W.alike e.data d.data = true := by
  cases e <;> cases d <;> simp [Ef.data, PySem.W.alike, PySem.W.alikeAll]
theorem alike_mn (m n : Mn) : PySem.W.alike (dMn m) (dMn n) = true := by
  simp [dMn, PySem.W.alike, PySem.W.alikeAll, alike_ef]
theorem dMn_inj {m n : Mn} (h : dMn m = dMn n) : m = n := (eqv_mn m n).mp (by rw [h]; exact PySem.W.eqv_refl_alike _ (alike_mn n n))
theorem toks_mn {m n : Mn} (h : PySem.W.keyToks (dMn m) = PySem.W.keyToks (dMn n)) : m = n := by
  refine (eqv_mn m n).mp ?_
  cases e : PyData.eqv (dMn m) (dMn n) with
  | true => rfl
  | false =>
    exfalso
    have a := (PySem.W.toks_eqv _ _ (alike_mn m n)).2 e [.inl 0] [.inl 1]
    rw [h, PySem.W.lex_pre] at a
    have b : PyProof.Rows.lexLt itemOrd (PySem.W.keyToks (dMn n)) (PySem.W.keyToks (dMn n)) = false := lex_irrefl _
    rw [b] at a
    have c : PyProof.Rows.lexLt itemOrd [.inl 0] [.inl 1] = true := by decide +kernel
    rw [c] at a
    cases a
/-- manners in their order -/
def srtM (ms : List Mn) : List Mn := ms.mergeSort (PySem.W.dataLe false dMn)
/-- words in their order -/
def srtW (ws : List Str) : List Str := ws.mergeSort (PySem.W.dataLe false PyData.str)
theorem srtM_perm (ms : List Mn) : (srtM ms).Perm ms := List.mergeSort_perm _ _
theorem srtW_perm (ws : List Str) : (srtW ws).Perm ws := List.mergeSort_perm _ _
theorem srtM_data (ms : List Mn) : (srtM ms).map dMn = (ms.map dMn).mergeSort (PySem.W.dataLe false id) := List.map_mergeSort fun a _ b _ => rfl
theorem srtW_data (ws : List Str) : (srtW ws).map PyData.str = (ws.map PyData.str).mergeSort (PySem.W.dataLe false id) := List.map_mergeSort fun a _ b _ => rfl
theorem map_inj {α β : Type} {f : α → β} (h : ∀ a b, f a = f b → a = b) : ∀ {l m : List α}, l.map f = m.map f → l = m
  | [], [], _ => rfl
  | [], _ :: _, e => by cases e
  | _ :: _, [], e => by cases e
  | a :: l, b :: m, e => by
    injection e with e1 e2
    rw [h a b e1, map_inj h e2]
theorem srtM_eq {l m : List Mn} (p : l.Perm m) : srtM l = srtM m := by
  refine map_inj (fun a b => dMn_inj) ?_
  rw [srtM_data, srtM_data]
  refine sort_uniq (p.map dMn) fun x hx y hy e => ?_
  obtain ⟨a, _, rfl⟩ := List.mem_map.mp hx
  obtain ⟨b, _, rfl⟩ := List.mem_map.mp hy
  rw [toks_mn e]
theorem toks_str {x y : Str} (h : PySem.W.keyToks (.str x) = PySem.W.keyToks (.str y)) : x = y := by
  have e : ([.inr x.cps.toList] : List (Int ⊕ List Nat)) = [.inr y.cps.toList] := by simpa [PySem.W.keyToks] using h
  injection e with e1 _
  injection e1 with e2
  exact PySem.W.str_of_cps e2
theorem srtW_eq {l m : List Str} (p : l.Perm m) : srtW l = srtW m := by
  refine map_inj (f := PyData.str) (fun a b e => by injection e) ?_
  rw [srtW_data, srtW_data]
  refine sort_uniq (p.map _) fun x hx y hy e => ?_
  obtain ⟨a, _, rfl⟩ := List.mem_map.mp hx
  obtain ⟨b, _, rfl⟩ := List.mem_map.mp hy
  rw [toks_str e]
theorem Mans.cons_inv {H : Hp} {v : V} {vs : List V} {m : Mn} {ms : List Mn} (h : Mans H (v :: vs) (m :: ms)) : ManAt H v m ∧ Mans H vs ms :=
  ⟨h.2 0 v m rfl rfl, by have := h.1; simpa using this, fun i x n a b => h.2 (i + 1) x n a b⟩
theorem zip_fst : ∀ {vs : List V} {ds : List PyData}, vs.length = ds.length → (vs.zip ds).map Prod.fst = vs
  | [], [], _ => rfl
  | v :: vs, d :: ds, h => by
    rw [List.zip_cons_cons, List.map_cons, zip_fst (by simpa using h)]
theorem zip_snd : ∀ {vs : List V} {ds : List PyData}, vs.length = ds.length → (vs.zip ds).map Prod.snd = ds
  | [], [], _ => rfl
  | v :: vs, d :: ds, h => by
    rw [List.zip_cons_cons, List.map_cons, zip_snd (by simpa using h)]
theorem dep_ef (e : Ef) : e.data.depth = 1 := (lay_ef e).2
theorem dep_mn (m : Mn) : (dMn m).depth ≤ 32 := by
  have : (dMn m).depth = 2 := by simp [dMn, PyData.depth, PyData.depthAll, dep_ef]
  omega
/-- sorted(l) of manners -/
theorem sortM {K : PySem.W.Frag} {H : Hp} {Q : VK} {a : Addr} {vs : List V} {ms : List Mn} (hl : SqL K H a vs) (hm : Mans H vs ms) (q : ∀ p ys, H p = none → Mans H ys (srtM ms) → Q (.ref p) (upd H p (.lst ys))) : rSortedDp K [.ref a] H Q := by
  have len : vs.length = (ms.map dMn).length := by rw [List.length_map]; exact hm.1
  refine ⟨a, vs.zip (ms.map dMn), rfl, by rw [zip_fst len]; exact hl, by rw [zip_fst len, zip_snd len]; exact hm.dp, ?_, ?_, ?_, fun p hp => q p _ hp ?_⟩
  · rw [zip_snd len]
    exact PySem.W.AllAlike.of alike_mn
  · rw [zip_snd len]
    exact PySem.W.Sortable.tuples fun m => ⟨_, _, rfl⟩
  · intro b hb
    have : b.2 ∈ ms.map dMn := by
      rw [← zip_snd len]
      exact List.mem_map_of_mem hb
    obtain ⟨m, _, e⟩ := List.mem_map.mp this
    rw [← e]
    exact dep_mn m
  · have es : (srtOf (vs.zip (ms.map dMn))).map Prod.snd = (srtM ms).map dMn := by rw [srtOf_snd, zip_snd len, srtM_data]
    refine ⟨by rw [List.length_map, ← List.length_map (f := Prod.snd), es, List.length_map], fun i v m h1 h2 => ?_⟩
    rw [List.getElem?_map] at h1
    cases eb : (srtOf (vs.zip (ms.map dMn)))[i]? with
    | none => rw [eb] at h1; cases h1
    | some b =>
      rw [eb] at h1
      cases h1
      have e2 : b.2 = dMn m := by
        have := congrArg (fun l => l[i]?) es
        rw [List.getElem?_map, List.getElem?_map, eb, h2] at this
        exact Option.some.inj this
      have hb : b ∈ vs.zip (ms.map dMn) := (srtOf_perm _).mem_iff.mp (List.mem_of_getElem? eb)
      obtain ⟨k, hk⟩ := List.getElem?_of_mem hb
      rw [List.getElem?_zip_eq_some] at hk
      obtain ⟨k1, k2⟩ := hk
      rw [List.getElem?_map] at k2
      cases em : ms[k]? with
      | none => rw [em] at k2; cases k2
      | some n =>
        rw [em] at k2
        have e3 : dMn n = b.2 := Option.some.inj k2
        have : n = m := dMn_inj (e3.trans e2)
        rw [← this]
        exact hm.2 k _ _ k1 em
/-- sorted(l) of texts -/
theorem sortW {K : PySem.W.Frag} {H : Hp} {Q : VK} {a : Addr} {ws : List Str} (hl : SqL K H a (ws.map V.str)) (q : ∀ p, H p = none → Q (.ref p) (upd H p (.lst ((srtW ws).map V.str)))) : rSortedDp K [.ref a] H Q := by
  have e1 : (ws.map fun x => (V.str x, PyData.str x)).map Prod.fst = ws.map V.str := by rw [List.map_map]; rfl
  have e2 : (ws.map fun x => (V.str x, PyData.str x)).map Prod.snd = ws.map PyData.str := by rw [List.map_map]; rfl
  have dp : ∀ ws : List Str, DpAll K H (ws.map V.str) (ws.map PyData.str) := fun ws => by
    induction ws with
    | nil => exact .nil
    | cons x ws ih => exact .cons (.str x) ih
  refine ⟨a, ws.map fun x => (V.str x, PyData.str x), rfl, by rw [e1]; exact hl, by rw [e1, e2]; exact dp ws, ?_, ?_, ?_, fun p hp => ?_⟩
  · rw [e2]
    exact PySem.W.AllAlike.of fun x y => by simp [PySem.W.alike]
  · rw [e2]
    exact PySem.W.Sortable.others fun x => ⟨fun e => by (cases e), fun xs e => by cases e⟩
  · intro b hb
    obtain ⟨x, _, rfl⟩ := List.mem_map.mp hb
    simp [PyData.depth]
  · have e : srtOf (ws.map fun x => (V.str x, PyData.str x)) = (srtW ws).map fun x => (V.str x, PyData.str x) := (List.map_mergeSort (r := PySem.W.dataLe false PyData.str) (s := PySem.W.dataLe false Prod.snd) (f := fun x => (V.str x, PyData.str x)) (l := ws) fun a _ b _ => rfl).symm
    have := q p hp
    rw [e, List.map_map]
    exact this
end L2.K03
set_option Elab.async false
set_option linter.all false
set_option maxRecDepth 100000
set_option maxHeartbeats 0
namespace L2.EV
open PySem PySem.Spec PyProof.Rows
/-! ### facts of own classes of errors, by names -/
def clsB (K : PySem.W.Frag) (C : Addr) : Bool := match K.lookup C with
  | some ⟨.type "type", _, .cls c, sl⟩ => (match c.mro, sl.toList with
    | .ref D :: up, [_, _, _, _, some (.builtin n), _] => D == C && n == "ValueError.__new__" && !c.hasDel && c.hasDict && PySem.HandSPX.refsVE up
    | _, _ => false)
  | _ => false
theorem clsB_ok {K : PySem.W.Frag} {C : Addr} (h : clsB K C = true) : ∃ nm q N bs bm sn sub ab col dd k0 k1 k2 k3 k5, K.lookup C = some (excClassObj nm q C N bs bm true sn sub ab col dd k0 k1 k2 k3 k5 "ValueError.__new__") ∧ PySem.HandSPX.refsVE bm = true := by
  unfold clsB at h
  split at h
  · next dd c sl e =>
    split at h
    · next D up k0 k1 k2 k3 n k5 em es =>
      obtain ⟨nm, bs, mro, N, qn, hd, sn, sub, ab, col, del⟩ := c
      dsimp only at em h
      subst em
      have esl : sl = #[k0, k1, k2, k3, some (.builtin n), k5] := Array.toList_inj.mp (by rw [es])
      subst esl
      simp only [Bool.and_eq_true, beq_iff_eq, Bool.not_eq_true'] at h
      obtain ⟨⟨⟨⟨rfl, rfl⟩, rfl⟩, rfl⟩, hr⟩ := h
      exact ⟨nm, qn, N, bs, up, sn, sub, ab, col, dd, k0, k1, k2, k3, k5, e, hr⟩
    · cases h
  · cases h
def isB (a b : Option (Option Value)) : Bool := decide (a = b)
/-- an own class with an __init__ that stores one field -/
def errB (K : PySem.W.Frag) (x : Str) : Bool :=
  let C := He.ga K x
  let f := He.ma K C "__init__"
  [He.Fa.ok K (.glo x), clsB K C, isB (PySem.W.findIn K (.ref C) "__setattr__") (some (some (.builtin "object.__setattr__"))),
   decide (PySem.W.subIn K (.ref C) (.type "BaseException") = some true), decide (PySem.W.typeIn K (.ref C) = some (.type "type")),
   PySem.W.keepIn K (.ref C), isB (PySem.W.findIn K (.ref C) "value") (some none), isB (PySem.W.findIn K (.ref C) "__init__") (some (some (.ref f))),
   decide (PySem.W.typeIn K (.ref f) = some (.type "function")),
   isB (PySem.W.findIn K (.ref C) "__getattribute__") (some (some (.builtin "BaseException.__getattribute__"))),
   isB (PySem.W.findIn K (.ref C) "__getattr__") (some none), PySem.W.hasDictIn K C].all id
theorem errB_ok {K : PySem.W.Frag} {x : Str} (h : errB K x = true) : He.Fa.ok K (.glo x) = true ∧ Err K (He.ga K x) (He.ma K (He.ga K x) "__init__") := by
  unfold errB isB at h
  simp only [List.all_cons, List.all_nil, id, Bool.and_true, Bool.and_eq_true, decide_eq_true_eq] at h
  obtain ⟨h0, h1, h2, h3, h4, h5, h6, h7, h8, h9, h10, h11⟩ := h
  exact ⟨h0, ⟨⟨clsB_ok h1, h2, h3, h4, h5⟩, h6, h7, h8, ⟨h9, h10, h3, h11⟩⟩⟩
/-- how isinstance asks the instances of the class at C -/
def asksB (K : PySem.W.Frag) (C : Addr) : Bool :=
  [(PySem.W.clsIn K C).isSome, isB (PySem.W.findIn K (.ref C) "__getattribute__") (some (some (.builtin "BaseException.__getattribute__"))),
   isB (PySem.W.findIn K (.ref C) "__getattr__") (some none), decide (PySem.W.subIn K (.ref C) (.type "BaseException") = some true),
   isB (PySem.W.findIn K (.ref C) "__class__") (some (some (.builtin "object.__class__"))),
   decide (PySem.W.specialIn K (.builtin "object.__class__") "__get__" = some (some (.builtin "getset_descriptor.__get__"))),
   decide (PySem.W.takesIn K (.builtin "object.__class__") = some true), decide (PySem.W.mroIn K C (.type "object") = some true)].all id
theorem asksB_ok {K : PySem.W.Frag} {C : Addr} (h : asksB K C = true) : Asks K C := by
  unfold asksB isB at h
  simp only [List.all_cons, List.all_nil, id, Bool.and_true, Bool.and_eq_true, decide_eq_true_eq] at h
  obtain ⟨h0, h1, h2, h3, h4, h5, h6, h7⟩ := h
  exact ⟨h0, h1, h2, h3, h4, h5, h6, h7⟩
/-! ### such an __init__ -/
abbrev nInit : List Str := ["self", "value"]
theorem ok_init {P : Program} {w : World} {K : PySem.W.Frag} {mg : Str → Option Value} {base : Heap} {st : Stmt} {q : Str} {f C fI : Addr} {fd : FuncData} {dvs : List V} {p1 p2 p3 p4 : Pos}
    (F : FunD K "__init__" q (defArgs st) (defBody st) (defScope st) dvs [] f fd) (S : FnScope nInit nInit (defScope st)) (l1 : (defScope st).names.lookup ("self" : Str) = some NameKind.local) (l2 : (defScope st).names.lookup ("value" : Str) = some NameKind.local)
    (hb : defBody st = [.Assign [.Attribute (.Name "self" p1) "value" p2] (.Name "value" p3) p4]) (E : Err K C fI) : FnOk P w K mg base CX0 1 f fd nInit (spInit C) := by
  refine F.ok S (fun vs H Q E h => ?_) (fun cdv A outer s H vs Q E' hr h => ?_)
  · obtain ⟨a, v, rfl, _⟩ := h
    rfl
  · obtain ⟨a, v, rfl, ha, k⟩ := h
    rw [hb]
    refine ⟨_, PSs.nox (pss_one (ps_ost (pv 0 rfl (Or.inl l1)) (pv 1 rfl (Or.inl l2)))), ?_⟩
    exact ⟨_, rfl, _, rfl, a, C, rfl, E.ox, E.noV, .inl ⟨ha, k⟩⟩
end L2.EV
set_option Elab.async false
set_option linter.all false
set_option maxRecDepth 100000
set_option maxHeartbeats 4000000
namespace L2.EV
open PySem PySem.Spec PyProof.Rows
abbrev argsI (a1 a2 a3 : Pos) : Arguments := { posonlyargs := [], args := [⟨"self", none, a1⟩, ⟨"value", none, a2⟩], vararg := none, kwonlyargs := [], kw_defaults := [], kwarg := none, defaults := [.Constant .none 0 a3] }
abbrev bodyI (p1 p2 p3 p4 : Pos) : List Stmt := [.Assign [.Attribute (.Name "self" p1) "value" p2] (.Name "value" p3) p4]
abbrev scopeI : Scope := { kind := .function, names := [("self", .local), ("value", .local)], isGenerator := false, isCoroutine := false }
/-- def __init__(self, value=None): self.value = value -/
structure Init1 (st : Stmt) : Prop where
  ex : ∃ a1 a2 a3 p1 p2 p3 p4, defArgs st = argsI a1 a2 a3 ∧ defBody st = bodyI p1 p2 p3 p4 ∧ defScope st = scopeI
theorem scI : FnScope nInit nInit scopeI := ⟨rfl, rfl, rfl, by decide +kernel, rfl, by decide +kernel, by decide +kernel⟩
theorem ck_of {P : Program} {w : World} {K : PySem.W.Frag} {mg : Str → Option Value} {base : Heap} {st : Stmt} {x q : Str} {fd : FuncData} (I : Init1 st)
    (F : FunD K "__init__" q (defArgs st) (defBody st) (defScope st) [.non] [] (He.ma K (He.ga K x) "__init__") fd) (gx : mg x = some (.ref (He.ga K x))) (E : Err K (He.ga K x) (He.ma K (He.ga K x) "__init__")) : Ck P w K mg base x (He.ga K x) := by
  obtain ⟨a1, a2, a3, p1, p2, p3, p4, e1, e2, e3⟩ := I.ex
  have S : FnScope nInit nInit (defScope st) := by rw [e3]; exact scI
  refine ⟨gx, _, fd, E, ok_init (p1 := p1) (p2 := p2) (p3 := p3) (p4 := p4) F S (by rw [e3]; rfl) (by rw [e3]; rfl) e2 E, ?_, ?_, ?_⟩
  · rw [e1] at F
    obtain ⟨ds, rv, b⟩ := F.binds1 (ps := nInit) 2 1 (by simp) rfl fun T kV doc pm an cdv ct us its l1 l2 => match us, its, l1, l2 with | [_, _], [_], _, _ => ⟨_, rfl, rfl⟩
    cases rv
    exact fun s self u X => b s [self, u] X rfl
  · rw [e1] at F
    obtain ⟨ds, rv, b⟩ := F.binds1 (ps := nInit) 1 0 (by simp) rfl fun T kV doc pm an cdv ct us its l1 l2 => match us, its, l1, l2 with | [_], [_], _, _ => ⟨_, rfl, rfl⟩
    obtain ⟨d, rfl, r1⟩ := rv.one
    cases (show d = Value.none from r1)
    exact fun s self X => b s [self] X rfl
  · rw [e1] at F
    obtain ⟨its, b⟩ := F.kbindsD (ps := nInit) 1 ["value"] (fun us _ ws => us ++ ws) (by simp) (fun r1 _ r3 => r1.append r3) fun T kV doc pm an cdv ct us its ws l1 l2 l3 => match us, its, ws, l1, l2, l3 with | [_], [_], [_], _, _, _ => ⟨_, rfl, rfl⟩
    exact fun s self u X => b.to s [self] [u] X rfl rfl
end L2.EV
set_option Elab.async false
set_option linter.all false
set_option maxRecDepth 100000
set_option maxHeartbeats 4000000
namespace L2.EV
open PySem PySem.Spec PyProof.Rows
/-! ### raise C(e), C an own class of errors whose __init__ stores its one field -/
/-- the least reading that asks what te asks, and may be weakened -/
def mno (te : TE) : TE := fun σ H Q => ∃ Q0 : VK, te σ H Q0 ∧ ∀ v H', Q0 v H' → Q v H'
theorem pe_mno {X : Cx} {e : Expr} {te : TE} (he : PE X e te) : PE X e (mno te) :=
  ⟨fun pins s σ H Q I ⟨Q0, h, m⟩ => thn (he.run pins s σ H Q0 I h) fun u s1 ⟨v, H1, I1, r, q⟩ => ⟨v, H1, I1, r, m v H1 q⟩⟩
theorem PS.imp {X : Cx} {st : Stmt} {t t' : TS} (h : PS X st t) (m : ∀ D σ H, t' D σ H → t D σ H) : PS X st t' := ⟨fun pins s σ H D I q => h.run pins s σ H D I (m D σ H q)⟩
theorem PE.imp {X : Cx} {e : Expr} {t t' : TE} (h : PE X e t) (m : ∀ σ H Q, t' σ H Q → t σ H Q) : PE X e t' := ⟨fun pins s σ H Q I q => h.run pins s σ H Q I (m σ H Q q)⟩
theorem PA.imp {X : Cx} {es : List Expr} {t t' : TA} (h : PA X es t) (m : ∀ σ H Q, t' σ H Q → t σ H Q) : PA X es t' := ⟨fun pos pins s σ H Q I q => h.run pos pins s σ H Q I (m σ H Q q)⟩
theorem made_heap {H : Hp} {a d C : Addr} {fs : List (Str × V)} (ha : H a = none) (hd : H d = none) (ne : d ≠ a) :
    upd (del (upd (upd (upd H a (exo a C none)) d (exd d fs)) a (exo a C (some d))) a) d (.xd fs) = upd H d (.xd fs) := by
  funext b
  by_cases e1 : b = d
  · rw [e1, upd_same, upd_same]
  · rw [upd_ne e1, upd_ne e1]
    by_cases e2 : b = a
    · rw [e2, del_same, ha]
    · rw [del_ne e2, upd_ne e2, upd_ne e1, upd_ne e2]
theorem ps_rz {X : Cx} {C : Addr} {x : Str} {W : WX} {e : Expr} {te : TE} {p pos pos2 : Pos} (c : Ck X.prog X.w X.K X.mg X.base x C) (hc : X.calm = true) (hr : Room 2 X.A) (tk : Takes X W) (he : PE X e te) (hg : Gl X x := by rfl)
    (hdb : (x == ("__debug__" : Str)) = false := by decide) (hs : starEach [e] X.env = (false, eval e X.env) :: starEach [] X.env := by rfl) :
    PS X (.Raise (some (.Call (.Name x p) [e] [] pos)) none pos2) (fun _ σ H => te σ H fun v H1 => ∀ d, H1 d = none → W (.ref C) (some d) σ (upd H1 d (.xd [(("value" : Str), v)]))) := by
  obtain ⟨fI, fd, E, F, b1, b0, bk⟩ := c.ex
  have hb : Binds X.K fd ["self", "value"] [] := fun s us KX hl => by
    rw [List.append_nil] at hl ⊢
    match us, hl with
    | [self, u], _ => exact b1 s self u KX
  refine PS.imp (ps_raise hc tk (pmk_oex E.ox E.iC E.tI F hr hb .nil pass0 hg c.mgx (pa_cons (pe_mno he) pa_nil hs) hdb hs (by rfl))) fun D σ H q => ?_
  refine ⟨_, q, fun v H1 z => ⟨(by show 1 ≤ 1000; decide), fun a ha => ?_⟩⟩
  refine ⟨a, v, rfl, upd_same, fun dx hdx ne => ⟨rfl, dx, [(("value" : Str), v)], upd_same, ?_, ?_, ?_⟩⟩
  · rw [upd_ne ne]
    exact upd_same
  · rw [upd_ne ne] at hdx
    exact hdx
  · have hd : H1 dx = none := by
      rw [upd_ne ne] at hdx
      exact hdx
    show W (.ref C) (some dx) σ _
    rw [made_heap ha hd ne]
    exact z dx hd
/-! ### isinstance of the error that a suite holds -/
/-- isinstance(e, c) | isinstance(e, (c1, ..)): e at a, of the class cls, its dict d -/
def rIsS (K : PySem.W.Frag) (a : Addr) (cls : Value) (d : Option Addr) : List V → Hp → VK → Prop := fun xs H Q => ∃ (C dd : Addr) (fs : List (Str × V)) (c : V) (b : Bool), xs = [.ref a, c] ∧ cls = .ref C ∧ d = some dd ∧ H dd = some (.xd fs) ∧ Asks K C ∧
  ((∃ cv, ClsV c cv ∧ PySem.W.kitOne K (.ref C) cv = some b) ∨ ∃ (tp : Addr) (cs : List V) (us : List Value), c = .ref tp ∧ H tp = some (.tup cs) ∧ Paired ClsV cs us ∧ PySem.W.kitAny K (.ref C) us = some b) ∧ Q (.bl b) H
theorem call_isS {X : Cx} {a : Addr} {oe : Obj} {cls : Value} {d : Option Addr} {pn : List (Addr × Obj)} (hz : Zc cls d oe) (hf : ∃ vs, oe.data = .fields vs) : CallR (X.suite a ((a, oe) :: pn)) (.builtin "isinstance") (rIsS X.K a cls d) := by
  intro pins s σ H xs us Q I r h
  obtain ⟨C, dd, fs, c, b, rfl, rfl, rfl, hd, T, hk, q⟩ := h
  obtain ⟨u1, u2, rfl, r1, r2⟩ := vals2 r
  cases (show u1 = Value.ref a from r1)
  obtain ⟨ha, _⟩ := I.pin (a, oe) (List.mem_append_left _ List.mem_cons_self)
  obtain ⟨vs, hdat⟩ := hf
  obtain ⟨mA, hns, _⟩ := (show ObjOk X.prog X.w H s.heap dd (.xd fs) from I.hok dd _ hd)
  obtain ⟨od, ho, _⟩ := lookIn_ns hns
  have J : PySem.W.InstAt s.heap a oe C (some od) := ⟨ha, hz.1, by unfold PySem.W.notCls; rw [hdat] <;> rfl, by rw [hz.2]; exact ho⟩
  have Z := PySem.W.kitx_exc (x := a) (od := some od) T.hcl T.hga T.hgt T.hsub T.ha T.hn T.ht T.hm (ox := oe)
  rcases hk with ⟨cv, hc, e⟩ | ⟨tp, cs, ws, rfl, hT, k, e⟩
  · have e2 := hc.eq r2
    subst e2
    exact PySem.W.kia_one Z I.kIn J e (fun z => nomatch z) fun tk => ⟨.bl b, H, I.tok tk, rfl, q⟩
  · cases (show u2 = Value.ref tp from r2)
    obtain ⟨_, its, rv, o, h1, h2, n, h3⟩ := (show ObjOk X.prog X.w H s.heap tp (.tup cs) from I.hok tp _ hT)
    have e3 := ClsV.all k rv
    subst e3
    obtain ⟨oc, odd, dt, sl⟩ := o
    simp only at h2 h3
    subst h2 h3
    exact PySem.W.kia_tup Z I.kIn J h1 e (fun z => nomatch z) fun tk => ⟨.bl b, H, I.tok tk, rfl, q⟩
end L2.EV
set_option Elab.async false
set_option linter.all false
set_option maxRecDepth 100000
set_option maxHeartbeats 4000000
namespace L2.EV
open PySem PySem.Spec PyProof.Rows
/-! ### try: body, then several clauses 'except X as n', all with the one name n (slot i) -/
abbrev Suite : Type := Addr → Value → Option Addr → TS
/-- behind a suite its name is gone -/
def offI (i : Nat) (D : Ends) : Ends := { nx := fun σ H => D.nx (σ.set i none) H, rt := D.rt, bk := fun σ H => D.bk (σ.set i none) H, ct := fun σ H => D.ct (σ.set i none) H }
def wNmd (K : PySem.W.Frag) (i : Nat) (Wout : WX) (D : Ends) : List (Value × Suite) → WX
  | [] => Wout
  | q :: r => fun cls d σ H => ∃ b, PySem.W.exmOne K cls q.1 = some b ∧ if b = true then ∀ a, H a = none → q.2 a cls d (offI i D) (σ.set i (some (.ref a))) H else wNmd K i Wout D r cls d σ H
inductive Clauses (X : Cx) (n : Str) : List ExceptHandler → List (Value × Suite) → Prop
  | nil : Clauses X n [] []
  | cons {x : Str} {c : Value} {u : Suite} {s0 : Stmt} {ss : List Stmt} {p1 p2 : Pos} {hs : List ExceptHandler} {qs : List (Value × Suite)} (nm : Names X x c)
      (su : ∀ (a : Addr) (oe : Obj) (cls : Value) (d : Option Addr) (pn : List (Addr × Obj)), Zc cls d oe → (∃ vs, oe.data = .fields vs) → PSs (X.suite a ((a, oe) :: pn)) (s0 :: ss) (u a cls d)) (tl : Clauses X n hs qs) :
      Clauses X n (.ExceptHandler (some (.Name x p1)) (some n) (s0 :: ss) p2 :: hs) ((c, u) :: qs)
section
variable {X : Cx} {n : Str} {i : Nat} {Wout : WX}
/-- what stands when the clauses are looked at -/
structure Held (X : Cx) (pins : List (Addr × Obj)) (σ : St) (H : Hp) (a : Addr) (B : Heap) (cls : Value) (d : Option Addr) (sI s : Shared) : Prop where
  inv : Inv X pins σ H sI
  nb : ∀ b o, sI.heap.get? b = some o → b ∉ frs X.stack → B.get? b = some o
  up : sI.heap.UpToSlots s.heap
  na : H a = none
  os : s.os = sI.os
  ag : AllBare s.gens
  fl : HandSPX.FlyingZ B (X.env :: X.outer) a (Zc cls d) s.heap
theorem clauses_run (hs : X.stack = X.env :: X.outer) (hf : X.env.frame = some X.env.locals) (hN : X.N.Nodup) (hi : X.N[i]? = some n) (hl : X.env.kindOf n = some .local) (tk : Takes X Wout) {pins : List (Addr × Obj)} {σ : St} {H : Hp} {D : Ends} {a : Addr} {B : Heap}
    {cls : Value} {d : Option Addr} {sI s : Shared} (Z : Held X pins σ H a B cls d sI s) : ∀ {hds : List ExceptHandler} {qs : List (Value × Suite)}, Clauses X n hds qs → wNmd X.K i Wout D qs cls d σ H →
      wpAny (model X.prog X.w) X.A (handleBy (.ref a) X.env hds) (SP X pins D) X.xe s := by
  obtain ⟨J, nb, up, na, os, ag, fl⟩ := Z
  have okX := J.ok
  have J0 : Inv X pins σ H s := J.landed nb fl.1 up os ag
  have inFr : ∀ {h : Heap} {o : Obj} {vs : Array Value}, h.FunFrames B (X.env :: X.outer) → h.get? a = some o → o.data = .fields vs → a ∉ frs (X.env :: X.outer) := by
    intro h o vs g e z hm
    obtain ⟨_, o2, e2, hn⟩ := g.mem hm
    rw [e] at e2
    cases e2
    exact hn _ z
  obtain ⟨oe, vs, he, hz, hd⟩ := fl.there
  have noFr := inFr fl.2.2.1 he hd
  have hstk : ∀ {z : Env}, z ∈ X.env :: X.outer → ∀ {L : Addr}, z.frame = some L → L ∈ frs (X.env :: X.outer) := fun hz _ hL => List.mem_filterMap.mpr ⟨_, hz, hL⟩
  have noL : a ≠ X.env.locals := fun z => noFr (by rw [z]; exact hstk List.mem_cons_self hf)
  have noF : a ∉ X.fs := fun hm => by
    obtain ⟨e, m1, m2⟩ := List.mem_filterMap.mp hm
    exact noFr (hstk (List.mem_cons_of_mem _ m1) m2)
  intro hds qs K
  induction K with
  | nil =>
    intro w
    obtain ⟨_, _, _, oe2, vs2, T, oT, ts2, he2, hz2, hd2, h1, _⟩ := id fl
    refine wpAny_handleBy_nil ?_
    have last : wpAny (model X.prog X.w) X.A (setFlight (.ref a) X.env.frame) (fun _ t => wpAny (model X.prog X.w) X.A (throw (.ref a) : Sem Flow) (SP X pins D) X.xe t) X.xe s := by
      rw [hf]
      refine HandSPX.setFlight_upZ fl fun h4 hh4 up4 => wpAny_throw (tk _ _ ?_)
      refine ⟨a, B, sI, pins, σ, H, cls, d, rfl, J, nb, up.trans up4, .inr (.inr ?_), na, os, ag, w⟩
      rw [hs]
      exact hh4
    unfold PySem.passOn
    refine wpAny_bind (wpAny_field he2 hd2 h1 ?_)
    have noN : ¬ ((Value.ref T == Value.none) = true) := by simp
    rw [if_neg noN]
    first | exact wpAny_bind (wpAny_pure (wpAny_bind last)) | exact wpAny_bind last
  | @cons x c u s0 ss p1 p2 hs2 qs2 nm su tl ih =>
    rintro ⟨b, hb, w⟩
    have S0 := J0.suite he hd na noL noF
    have LT : PySem.W.Looks (model X.prog X.w) s.heap (typeOf (.ref a)) cls := fun A Q E t k q => wpAny_typeOf_ref (k _ _ he) (by rw [hz.1]; exact q)
    have LM := PySem.W.exm_one (M := model X.prog X.w) J0.kIn LT hb
    have named : ∀ {Q : Value → Shared → Prop} {E : Value → Shared → Prop}, Q c s → wpAny (model X.prog X.w) (X.A.mark (some (.ref a))) (eval (.Name x p1) X.env) Q E s := by
      intro Q E q
      obtain ⟨g1, g2, g3 | ⟨g3, g4, g5⟩⟩ := nm
      · exact ld_glob (X := X.suite a ((a, oe) :: (X.pn ++ pins))) S0 g1 g3 q g2
      · exact ld_blt (X := X.suite a ((a, oe) :: (X.pn ++ pins))) S0 g1 g3 g4 q g5 g2
    refine wpAny_handleBy_cons (codeAny_handlers_test (named (LM.here ?_))) (by intro q; cases q)
    cases b with
    | false =>
      rw [if_neg Bool.false_ne_true] at w
      exact ih w
    | true =>
      rw [if_pos rfl] at w
      refine codeAny_handlers_suite_as (HandSPX.lands_againZ fl fun h4 fl4 up4 => ?_)
      have J4 : Inv X pins σ H { s with heap := h4 } := J.landed nb fl4.1 (up.trans up4) os ag
      obtain ⟨oe4, vs4, he4, hz4, hd4⟩ := fl4.there
      have S4 := J4.suite he4 hd4 na noL noF
      refine store_ok (X := X.suite a ((a, oe4) :: (X.pn ++ pins))) (v := .ref a) S4 hN hi (.inl hl) rfl (fun s5 S5 => ?_) (.inr hl)
      refine wpAny_mono ((su a oe4 cls d (X.pn ++ pins) hz4 ⟨_, hd4⟩).run [] s5 _ H _ S5 (w a na)) (fun f s6 h6 => ?_) (fun _ _ z => z.elim)
      have leave : ∀ {σ6 : St} {H6 : Hp} {Q : Shared → Prop}, Inv (X.suite a ((a, oe4) :: (X.pn ++ pins))) [] σ6 H6 s6 → (∀ s7, Inv X pins (σ6.set i none) H6 s7 → Q s7) →
          wpAny (model X.prog X.w) X.A (do bindName X.env n .none; unbindBehindTheSuite X.env n p2) (fun _ s7 => Q s7) X.xe s6 := fun S6 hq => gone_ok (S6.unsuite okX) hN hi hl hq
      cases f with
      | ret v =>
        obtain ⟨v6, σ6, H6, S6, r6, q6⟩ := h6
        exact leave S6 fun s7 J7 => ⟨_, _, _, J7, r6, q6⟩
      | next =>
        obtain ⟨σ6, H6, S6, q6⟩ := h6
        exact leave S6 fun s7 J7 => ⟨_, _, J7, q6⟩
      | brk =>
        obtain ⟨σ6, H6, S6, q6⟩ := h6
        exact leave S6 fun s7 J7 => ⟨_, _, J7, q6⟩
      | cont =>
        obtain ⟨σ6, H6, S6, q6⟩ := h6
        exact leave S6 fun s7 J7 => ⟨_, _, J7, q6⟩
theorem ps_try_named {body : List Stmt} {h0 : ExceptHandler} {hds : List ExceptHandler} {qs : List (Value × Suite)} {pos : Pos} {tb : WX → TS} (hs : X.stack = X.env :: X.outer) (hf : X.env.frame = some X.env.locals) (hN : X.N.Nodup) (hi : X.N[i]? = some n)
    (hl : X.env.kindOf n = some .local) (tk : Takes X Wout)
    (hb : ∀ (W : WX) (pn : List (Addr × Obj)) (xe : Value → Shared → Prop), Takes (X.tr pn xe) W → PassesOwn (model X.prog X.w) X.A X.env xe → PSs (X.tr pn xe) body (tb W))
    (hc : Clauses X n (h0 :: hds) qs) : PS X (.Try body (h0 :: hds) [] [] pos) (fun D σ H => tb (wNmd X.K i Wout D qs) D σ H) := by
  refine ⟨fun pins s σ H D I h => wpAny_Try_except ?_⟩
  have okX := I.ok
  have hfr : X.A.frames = some (X.env :: X.outer) := okX.frames.trans (congrArg some hs)
  refine wpAny_mono ((hb (wNmd X.K i Wout D qs) (X.pn ++ pins) (fun e t1 => wpAny (model X.prog X.w) X.A (noteFrame e X.env) (fun _ t2 => wpAny (model X.prog X.w) X.A (setFlight e none) (fun _ t3 =>
    wpAny (model X.prog X.w) X.A (handleBy e X.env (h0 :: hds)) (SP X pins D) X.xe t3) X.xe t2) X.xe t1) (fun u s2 z => ?_) PassesOwn.looking).run [] s σ H D (I.toTry _) h) (fun f s1 z => ?_) (fun e s1 z => z)
  · obtain ⟨a, B, sI, pins2, σ2, H2, cls, d, rfl, J2, nb, up, sky, na, os, ag, w⟩ := z
    rw [show (X.tr (X.pn ++ pins) _).stack = X.env :: X.outer from hs] at sky
    show wpAny (model X.prog X.w) X.A (noteFrame (.ref a) X.env) _ _ _
    refine Sky.land Zc.steady hfr hf sky fun h3 fl3 up3 => ?_
    exact clauses_run (s := { s2 with heap := h3 }) hs hf hN hi hl tk ⟨J2.ofTry okX, nb, up.trans up3, na, os, ag, fl3⟩ hc w
  · cases f with
    | ret v =>
      obtain ⟨y, σ2, H2, J2, r, q⟩ := z
      exact ⟨y, σ2, H2, J2.ofTry okX, r, q⟩
    | next =>
      obtain ⟨σ2, H2, J2, q⟩ := z
      exact wpAny_execs_nil ⟨σ2, H2, J2.ofTry okX, q⟩
    | brk =>
      obtain ⟨σ2, H2, J2, q⟩ := z
      exact ⟨σ2, H2, J2.ofTry okX, q⟩
    | cont =>
      obtain ⟨σ2, H2, J2, q⟩ := z
      exact ⟨σ2, H2, J2.ofTry okX, q⟩
end
end L2.EV
set_option Elab.async false
set_option linter.all false
set_option maxRecDepth 100000
set_option maxHeartbeats 4000000
namespace L2.K03
open PySem PySem.Spec PyProof.Rows L2.EV
/-! ### the errors, the class -/
abbrev aWd (K : PySem.W.Frag) : Addr := He.ga K "InvalidWord"
abbrev aMn (K : PySem.W.Frag) : Addr := He.ga K "InvalidManners"
abbrev aRm (K : PySem.W.Frag) : Addr := He.ga K "InvalidRooms"
abbrev aMu (K : PySem.W.Frag) : Addr := He.ga K "InvalidManual"
abbrev aRo (K : PySem.W.Frag) : Addr := He.ga K "InvalidRoom"
abbrev aC (K : PySem.W.Frag) : Addr := He.ga K "Manual"
structure Tx (P : Program) (w : World) (K : PySem.W.Frag) (mg : Str → Option Value) (base : Heap) : Prop where
  wd : Ck P w K mg base "InvalidWord" (aWd K)
  mn : Ck P w K mg base "InvalidManners" (aMn K)
  rm : Ck P w K mg base "InvalidRooms" (aRm K)
  mu : Ck P w K mg base "InvalidManual" (aMu K)
  ro : Ck P w K mg base "InvalidRoom" (aRo K)
structure Mc (K : PySem.W.Frag) : Prop where
  c : Cls K (aC K)
  m : NoAttr K (aC K) "_manners"
  b : NoAttr K (aC K) "_beginnings"
  e : NoAttr K (aC K) "_ends"
/-- the way out by an error of the class at C, made of v -/
def Out (H : Hp) (E : XK) (C : Addr) (v : V) : Prop := ∀ d H', Same H H' → H' d = some (.xd [(("value" : Str), v)]) → E (.ref C) (some d) H'
theorem Out.same {H H1 : Hp} {E : XK} {C : Addr} {v : V} (o : Out H E C v) (s : Same H H1) : Out H1 E C v := fun d H' s' e => o d H' (s.trans s') e
/-- a def of the top that may raise -/
structure GotX (P : Program) (w : World) (K : PySem.W.Frag) (mg : Str → Option Value) (base : Heap) (k : Nat) (x : Str) (ps : List Str) (sp : Sp) : Prop where
  ex : ∃ f fd, FnOk P w K mg base (L2.CX P w) k f fd ps sp ∧ Binds K fd ps [] ∧ PySem.W.keepIn K (.ref f) = true ∧ mg x = some (.ref f)
/-! ### a manual -/
/-- at x: a manual of the manners ms, the beginnings bs, the ends es (sorted) -/
def ManuAt (K : PySem.W.Frag) (H : Hp) (x : Addr) (ms : List Mn) (bs es : List Str) : Prop := ∃ (dx p q r : Addr) (fs : List (Str × V)) (ys : List V), H x = some (.ins (aC K) dx fs) ∧ fs.lookup ("_manners" : Str) = some (.ref p) ∧ fs.lookup ("_beginnings" : Str) = some (.ref q) ∧ fs.lookup ("_ends" : Str) = some (.ref r) ∧
  (fs.lookup ("manners" : Str) = none ∧ fs.lookup ("beginnings" : Str) = none ∧ fs.lookup ("ends" : Str) = none) ∧ H p = some (.lst ys) ∧ Mans H ys ms ∧ H q = some (.lst (bs.map V.str)) ∧ H r = some (.lst (es.map V.str))
theorem ManuAt.same {K : PySem.W.Frag} {H H' : Hp} {x : Addr} {ms : List Mn} {bs es : List Str} (h : ManuAt K H x ms bs es) (s : Same H H') : ManuAt K H' x ms bs es := by
  obtain ⟨dx, p, q, r, fs, ys, h1, h2, h3, h4, hn, h5, h6, h7, h8⟩ := h
  exact ⟨dx, p, q, r, fs, ys, s _ _ h1, h2, h3, h4, hn, s _ _ h5, h6.same s, s _ _ h7, s _ _ h8⟩
/-- a manual that stands whatever becomes of the lists that were there before -/
def ManuFr (K : PySem.W.Frag) (H H' : Hp) (x : Addr) (ms : List Mn) (bs es : List Str) : Prop := ∀ G : Hp, (∀ c o, H' c = some o → (∀ us, H c ≠ some (.lst us)) → G c = some o) → ManuAt K G x ms bs es
theorem ManuFr.at {K : PySem.W.Frag} {H H' : Hp} {x : Addr} {ms : List Mn} {bs es : List Str} (h : ManuFr K H H' x ms bs es) : ManuAt K H' x ms bs es := h H' fun _ _ e _ => e
abbrev MsL (K : PySem.W.Frag) (H : Hp) (v : V) (r : Bool) : Prop := ∀ H', Same H H' → MannersF K H' v r
abbrev RmL (K : PySem.W.Frag) (H : Hp) (v : V) (r : Bool) : Prop := ∀ H', Same H H' → RoomsF K H' v r
abbrev sIn : Stmt := inClass (top 27) 0
abbrev pIn : List Str := ["self", "manners", "beginnings", "ends"]
theorem scIn : FnScope pIn pIn (defScope sIn) := ⟨rfl, rfl, rfl, by decide +kernel, rfl, by decide +kernel, by decide +kernel⟩
def spIn (K : PySem.W.Frag) : Sp := fun vs H Q E => ∃ (x dx : Addr) (m b e : V), vs = [.ref x, m, b, e] ∧ H x = some (.ins (aC K) dx []) ∧ ((MsL K H m false ∧ Out H E (aMn K) m) ∨ (MsL K H m true ∧ ((RmL K H b false ∧ Out H E (aRm K) b) ∨ (RmL K H b true ∧ ((RmL K H e false ∧ Out H E (aRm K) e) ∨
  (RmL K H e true ∧ ∃ (la lb le : Addr) (ws : List V) (ms : List Mn) (bs es : List Str), m = .ref la ∧ H la = some (.lst ws) ∧ Mans H ws ms ∧ b = .ref lb ∧ H lb = some (.lst (bs.map V.str)) ∧ e = .ref le ∧ H le = some (.lst (es.map V.str)) ∧
    ∀ H', ManuFr K H H' x (srtM ms) (srtW bs) (srtW es) → (∀ c o, c ≠ x → H c = some o → H' c = some o) → Q .non H'))))))
section
variable {P : Program} {w : World} {K : PySem.W.Frag} {mg : Str → Option Value} {base : Heap} {f : Addr} {fd : FuncData}
theorem ok_in (F : FunD K "__init__" "Manual.__init__" (defArgs sIn) (defBody sIn) (defScope sIn) [] [] f fd) (T : Tx P w K mg base) (C : Mc K) (GM : Got P w K mg base 4 "has_manners_form" ["value"] (spMsF K)) (GR : Got P w K mg base 3 "has_rooms_form" ["value"] (spRF K)) (mS : mg "sorted" = none) :
    FnOk P w K mg base (L2.CX P w) 5 f fd pIn (spIn K) := by
  refine F.ok scIn (fun vs H Q E h => ?_) (fun cdv A outer s H vs Q E hr h => ?_)
  · obtain ⟨x, dx, m, b, e, rfl, _⟩ := h
    rfl
  · obtain ⟨x, dx, m, b, e, rfl, hx, h⟩ := h
    have hu := hr.units
    have hr2 := hr.mono (show 2 ≤ 4 by decide)
    refine ⟨_, pss_cons (ps_if (pt_not (pt_val (pe_got GM hr (pa_cons (pv 1) pa_nil)))) (pss_one (ps_rz T.mn rfl hr2 (takes_of rfl rfl rfl rfl) (pv 1))) pss_nil)
      (pss_cons (ps_if (pt_not (pt_val (pe_got GR hr (pa_cons (pv 2) pa_nil)))) (pss_one (ps_rz T.rm rfl hr2 (takes_of rfl rfl rfl rfl) (pv 2))) pss_nil)
      (pss_cons (ps_if (pt_not (pt_val (pe_got GR hr (pa_cons (pv 3) pa_nil)))) (pss_one (ps_rz T.rm rfl hr2 (takes_of rfl rfl rfl rfl) (pv 3))) pss_nil)
      (pss_cons (ps_fld (pv 0) (pe_callB (cr_sortedDp hu) (by rfl) mS (by decide +kernel) (pa_cons (pv 1) pa_nil)) rfl)
      (pss_cons (ps_fld (pv 0) (pe_callB (cr_sortedDp hu) (by rfl) mS (by decide +kernel) (pa_cons (pv 2) pa_nil)) rfl)
      (pss_one (ps_fld (pv 0) (pe_callB (cr_sortedDp hu) (by rfl) mS (by decide +kernel) (pa_cons (pv 3) pa_nil)) rfl)))))), ?_⟩
    rcases h with ⟨h, q⟩ | ⟨hm, h⟩
    · exact ⟨_, rfl, m, false, rfl, h _ (Same.refl H), fun H1 s1 => ⟨false, rfl, iteT ⟨_, rfl, fun d hd => q d _ (s1.trans (same_upd hd)) upd_same⟩⟩⟩
    refine ⟨_, rfl, m, true, rfl, hm _ (Same.refl H), fun H1 s1 => ⟨true, rfl, iteF ?_⟩⟩
    rcases h with ⟨h, q⟩ | ⟨hb, h⟩
    · exact ⟨_, rfl, b, false, rfl, h _ s1, fun H2 s2 => ⟨false, rfl, iteT ⟨_, rfl, fun d hd => q d _ (s1.trans (s2.trans (same_upd hd))) upd_same⟩⟩⟩
    refine ⟨_, rfl, b, true, rfl, hb _ s1, fun H2 s2 => ⟨true, rfl, iteF ?_⟩⟩
    rcases h with ⟨h, q⟩ | ⟨he, h⟩
    · exact ⟨_, rfl, e, false, rfl, h _ (s1.trans s2), fun H3 s3 => ⟨false, rfl, iteT ⟨_, rfl, fun d hd => q d _ (s1.trans (s2.trans (s3.trans (same_upd hd)))) upd_same⟩⟩⟩
    refine ⟨_, rfl, e, true, rfl, he _ (s1.trans s2), fun H3 s3 => ⟨true, rfl, iteF ?_⟩⟩
    obtain ⟨la, lb, le, ws, ms, bs, es, rfl, gla, mans, rfl, glb, rfl, gle, q⟩ := h
    have s03 := s1.trans (s2.trans s3)
    have hx3 := s03 _ _ hx
    clear s1 s2 s3
    refine ⟨_, rfl, ?_⟩
    dsimp only [tNil]
    refine sortM (SqL.of (s03 _ _ gla)) (mans.same s03) fun p ys hp hys => ?_
    have ne1 : p ≠ x := fun z => by rw [z, hx3] at hp; cases hp
    obtain ⟨H4, e4, s4, g4⟩ : ∃ H4, H4 = upd H3 p (.lst ys) ∧ Same H3 H4 ∧ H4 p = some (.lst ys) := ⟨_, rfl, same_upd hp, upd_same⟩
    rw [← e4]
    clear e4
    refine ⟨_, rfl, x, aC K, dx, [], rfl, s4 _ _ hx3, C.c, C.m, by decide, ?_⟩
    have k5 : ∀ c o, c ≠ x → H4 c = some o → upd H4 x (.ins (aC K) dx (putF "_manners" (.ref p) [])) c = some o := fun c o n e => by rw [upd_ne n]; exact e
    have g5 : upd H4 x (.ins (aC K) dx (putF "_manners" (.ref p) [])) x = some (.ins (aC K) dx (putF "_manners" (.ref p) [])) := upd_same
    generalize upd H4 x (.ins (aC K) dx (putF "_manners" (.ref p) [])) = H5 at k5 g5
    have neb : lb ≠ x := fun z => by rw [z, hx] at glb; cases glb
    have nee : le ≠ x := fun z => by rw [z, hx] at gle; cases gle
    refine ⟨_, rfl, ?_⟩
    dsimp only [tNil]
    refine sortW (SqL.of (k5 _ _ neb (s4 _ _ (s03 _ _ glb)))) fun q' hq => ?_
    have ne2 : q' ≠ x := fun z => by rw [z, g5] at hq; cases hq
    obtain ⟨H6, e6, s6, g6⟩ : ∃ H6, H6 = upd H5 q' (.lst ((srtW bs).map V.str)) ∧ Same H5 H6 ∧ H6 q' = some (.lst ((srtW bs).map V.str)) := ⟨_, rfl, same_upd hq, upd_same⟩
    rw [← e6]
    clear e6
    refine ⟨_, rfl, x, aC K, dx, _, rfl, s6 _ _ g5, C.c, C.b, (by show 1 < 1000; decide), ?_⟩
    generalize ef : putF "_beginnings" (.ref q') (putF "_manners" (.ref p) []) = fs2
    have k7 : ∀ c o, c ≠ x → H6 c = some o → upd H6 x (.ins (aC K) dx fs2) c = some o := fun c o n e => by rw [upd_ne n]; exact e
    have g7 : upd H6 x (.ins (aC K) dx fs2) x = some (.ins (aC K) dx fs2) := upd_same
    generalize upd H6 x (.ins (aC K) dx fs2) = H7 at k7 g7
    refine ⟨_, rfl, ?_⟩
    dsimp only [tNil]
    refine sortW (SqL.of (k7 _ _ nee (s6 _ _ (k5 _ _ nee (s4 _ _ (s03 _ _ gle)))))) fun r hr' => ?_
    have ne3 : r ≠ x := fun z => by rw [z, g7] at hr'; cases hr'
    obtain ⟨H8, e8, s8, g8⟩ : ∃ H8, H8 = upd H7 r (.lst ((srtW es).map V.str)) ∧ Same H7 H8 ∧ H8 r = some (.lst ((srtW es).map V.str)) := ⟨_, rfl, same_upd hr', upd_same⟩
    rw [← e8]
    clear e8
    subst ef
    refine ⟨_, rfl, x, aC K, dx, _, rfl, s8 _ _ g7, C.c, C.e, (by show 2 < 1000; decide), ?_⟩
    have k9 : ∀ c o, c ≠ x → H8 c = some o → upd H8 x (.ins (aC K) dx (putF "_ends" (.ref r) (putF "_beginnings" (.ref q') (putF "_manners" (.ref p) [])))) c = some o := fun c o n e => by rw [upd_ne n]; exact e
    have fp : ∀ us, H p ≠ some (.lst us) := fun us z => by rw [s03 _ _ z] at hp; cases hp
    have fq : ∀ us, H q' ≠ some (.lst us) := fun us z => by rw [k5 _ _ ne2 (s4 _ _ (s03 _ _ z))] at hq; cases hq
    have fr : ∀ us, H r ≠ some (.lst us) := fun us z => by rw [k7 _ _ ne3 (s6 _ _ (k5 _ _ ne3 (s4 _ _ (s03 _ _ z))))] at hr'; cases hr'
    refine q _ (fun G hG => ⟨dx, p, q', r, _, ys, hG _ _ upd_same (fun us z => by rw [hx] at z; cases z), by rfl, by rfl, by rfl, ⟨by rfl, by rfl, by rfl⟩, hG _ _ (k9 _ _ ne1 (s8 _ _ (k7 _ _ ne1 (s6 _ _ (k5 _ _ ne1 g4))))) fp, ?_, hG _ _ (k9 _ _ ne2 (s8 _ _ (k7 _ _ ne2 g6))) fq, hG _ _ (k9 _ _ ne3 g8) fr⟩) fun c o n e => k9 _ _ n (s8 _ _ (k7 _ _ n (s6 _ _ (k5 _ _ n (s4 _ _ (s03 _ _ e))))))
    refine ⟨hys.1, fun i v m a1 a2 => ?_⟩
    obtain ⟨a, t, rfl, h1, h2⟩ := hys.2 i v m a1 a2
    have na : a ≠ x := fun z => by rw [z, hx3] at h1; cases h1
    have nt : t ≠ x := fun z => by
      have h2' : H3 t = some (.tup m.e.vs) := h2
      rw [z, hx3] at h2'
      cases h2'
    have la : ∀ us, H a ≠ some (.lst us) := fun us z => by rw [s03 _ _ z] at h1; cases h1
    have lt : ∀ us, H t ≠ some (.lst us) := fun us z => by
      have h2' : H3 t = some (.tup m.e.vs) := h2
      rw [s03 _ _ z] at h2'
      cases h2'
    exact ⟨a, t, rfl, hG _ _ (k9 _ _ na (s8 _ _ (k7 _ _ na (s6 _ _ (k5 _ _ na (s4 _ _ h1)))))) la, hG _ _ (k9 _ _ nt (s8 _ _ (k7 _ _ nt (s6 _ _ (k5 _ _ nt (s4 _ _ h2)))))) lt⟩
end
end L2.K03
set_option Elab.async false
set_option linter.all false
set_option maxRecDepth 100000
set_option maxHeartbeats 4000000
namespace L2.EV
open PySem PySem.Spec PyProof.Rows L2
/-! ### a set of texts whose walk is told -/
/-- an entry's text -/
def rkT (e : Int × Value) : Str := match e.2 with
  | .str x _ => x
  | _ => ""
structure TxS (P : Program) (w : World) (h : Heap) (a : Addr) (L : List Str) (o : Obj) (es : Array (Int × Value)) (ep : Nat) (t : SetTable) : Prop where
  here : h.get? a = some o
  exact_ : o.ExactSet
  data : o.data = .set es ep t
  rows : ∀ e ∈ es.toList, ∃ x tk, e = ((strKind P w).hash x, Value.str x tk)
  perm : (es.toList.map rkT).Perm L
  nodup : L.Nodup
  few : es.size < scanBound
  fits : t.fits es.size = true
  ris : Ris t.place.toList
  led : w.params.followText "set-order" = true ∨ t.led = true
def TxAt (P : Program) (w : World) (a : Addr) (L : List Str) (h : Heap) : Prop := ∃ o es ep t, TxS P w h a L o es ep t
section
variable {P : Program} {w : World} {h h' : Heap} {a : Addr} {L : List Str} {A : Around} {E : Value → Shared → Prop} {s : Shared} {o : Obj} {es : Array (Int × Value)} {ep : Nat} {t : SetTable} {x : Str} {tk : Tok}
theorem TxAt.keep (R : TxAt P w a L h) (k : ∀ o, h.get? a = some o → h'.get? a = some o) : TxAt P w a L h' := by
  obtain ⟨o, es, ep, t, r⟩ := R
  exact ⟨o, es, ep, t, { r with here := k o r.here }⟩
theorem TxS.size (R : TxS P w h a L o es ep t) : es.size = L.length := by
  rw [← R.perm.length_eq, List.length_map, Array.length_toList]
theorem TxS.elems (R : TxS P w h a L o es ep t) : ElemsOf (strKind P w) es.toList := fun e he => by
  obtain ⟨x, tk, rfl⟩ := R.rows e he
  exact ⟨⟨x, strKind_is P w x tk, rfl⟩, rfl⟩
theorem TxS.mem (R : TxS P w h a L o es ep t) : x ∈ L ↔ ∃ e ∈ es.toList, (strKind P w).is x e.2 = true := by
  rw [← R.perm.mem_iff, List.mem_map]
  constructor
  · rintro ⟨e, he, rfl⟩
    obtain ⟨y, tk, rfl⟩ := R.rows e he
    exact ⟨_, he, strKind_is P w y tk⟩
  · rintro ⟨e, he, q⟩
    obtain ⟨y, tk, rfl⟩ := R.rows e he
    refine ⟨_, he, ?_⟩
    have q' : (y == x) = true := q
    exact eq_of_beq q'
theorem tx_tail {g : Bool → Sem Unit} (hg : ∀ (b : Bool) (s1 : Shared) (Q : Unit → Shared → Prop), Q () s1 → wpAny (model P w) A (g b) Q E s1) (ho : s.heap.get? a = some o) (hx : o.ExactSet) (hd : o.data = .set es ep t) {es1 : Array (Int × Value)} {t1 : SetTable} {L1 : List Str}
    (N : ∀ h1 o1 ep1, h1.get? a = some o1 → o1.ExactSet → o1.data = .set es1 ep1 t1 → TxS P w h1 a L1 o1 es1 ep1 t1) (few : es1.size < scanBound) {dm : Bool} {R : Option Bool → Shared → Prop}
    (q : ∀ h1, Heap.SameBut a s.heap h1 → TxAt P w a L1 h1 → R (some true) { s with heap := h1 }) :
    wpAny (model P w) A (do
        storeSet a es1 t1
        if (!dm && t1.tooFull) = true then do
            g (relayAll t1 es1 (SetTable.grown es1.size)).2.2
            storeSet a (relayAll t1 es1 (SetTable.grown es1.size)).1 (relayAll t1 es1 (SetTable.grown es1.size)).2.1
            pure (some true)
          else pure (some true)) R E s := by
  refine wpAny_bind (wpAny_storeSet_of ho hd ?_ (fits_of_scanBound few))
  have o1 := store_at (es' := es1) (t' := t1) ho hd
  have b1 := Heap.SameBut.update s.heap a (Obj.putSet es1 t1)
  have N1 := N _ _ _ o1 hx rfl
  split
  · have p2 := relayAll_perm t1 es1 (SetTable.grown es1.size)
    have f2 := relayAll_fits t1 es1 (SetTable.grown es1.size)
    have r2 := relayAll_ris t1 es1 (SetTable.grown es1.size)
    have l2 := relayAll_led t1 es1 (SetTable.grown es1.size)
    generalize relayAll t1 es1 (SetTable.grown es1.size) = Z2 at p2 f2 r2 l2 ⊢
    obtain ⟨es2, t2, gv⟩ := Z2
    dsimp only at p2 f2 r2 l2 ⊢
    have z2 : es2.size = es1.size := by rw [← Array.length_toList, p2.length_eq, Array.length_toList]
    have few2 : es2.size < scanBound := by omega
    refine wpAny_bind (hg _ _ _ ?_)
    refine wpAny_bind (wpAny_storeSet_of o1 rfl ?_ (fits_of_scanBound few2))
    have o2 := store_at (es' := es2) (t' := t2) o1 rfl
    refine wpAny_pure (q _ (b1.trans (Heap.SameBut.update _ a _)) ⟨_, es2, _, t2, o2, hx, rfl, fun e he => N1.rows e (p2.mem_iff.mp he), (p2.map rkT).trans N1.perm, N1.nodup, few2, f2, r2, ?_⟩)
    exact N1.led.imp id fun z => by rw [l2]; exact z
  · exact wpAny_pure (q _ b1 ⟨_, _, _, _, N1⟩)
/-- set.add of a text, its hash at hand -/
theorem tx_add {Q : Bool → Shared → Prop} (R : TxAt P w a L s.heap) (room : L.length + 1 < scanBound) (q : ∀ c h1, Heap.SameBut a s.heap h1 → TxAt P w a (if x ∈ L then L else L ++ [x]) h1 → Q c { s with heap := h1 }) :
    wpAny (model P w) A (setAddHashed a (.str x tk) ((strKind P w).hash x)) Q E s := by
  obtain ⟨o, es, ep, t, R⟩ := R
  have hk := strKind_is P w x tk
  have sc : (Value.str x tk).scannable = true := rfl
  unfold setAddHashed
  unfold setAddHashedIn
  refine wpAny_holding (wpAny_bind (wpAny_setState_of R.here R.data R.fits ?_))
  dsimp only
  rw [byScan_of sc R.few R.elems, if_pos rfl]
  unfold setAddByScan
  refine wpAny_bind (wpAny_bind (wpAny_rule (wpAny_bind (wpAny_setScan_of hk R.here R.data R.fits R.elems ?_))))
  cases hf : es.toList.findIdx? (fun e => (strKind P w).is x e.2) with
  | some j =>
    dsimp only
    obtain ⟨hj, pj, _⟩ := List.findIdx?_eq_some_iff_getElem.mp hf
    have hm : x ∈ L := R.mem.mpr ⟨es.toList[j], List.getElem_mem hj, pj⟩
    refine wpAny_pure (wpAny_pure (q false s.heap (Heap.SameBut.refl a s.heap) ?_))
    rw [if_pos hm]
    exact ⟨_, _, _, _, R⟩
  | none =>
    dsimp only
    have hm : x ∉ L := fun z => by
      obtain ⟨e, he, p⟩ := R.mem.mp z
      have := List.findIdx?_eq_none_iff.mp hf e he
      rw [p] at this
      cases this
    rw [if_neg hm] at q
    have p1 := layNew_perm t es ((strKind P w).hash x) (.str x tk)
    have f1 := layNew_fits t es ((strKind P w).hash x) (.str x tk)
    have r1 := layNew_ris t es ((strKind P w).hash x) (.str x tk) R.ris
    have l1 := layNew_led t es ((strKind P w).hash x) (.str x tk)
    generalize layNew t es ((strKind P w).hash x) (.str x tk) = Z1 at p1 f1 r1 l1 ⊢
    obtain ⟨es1, t1, dm, gv⟩ := Z1
    dsimp only at p1 f1 r1 l1 ⊢
    rw [Array.toList_push] at p1
    have few1 : es1.size < scanBound := by
      rw [← Array.length_toList, p1.length_eq, List.length_append, List.length_singleton, Array.length_toList, R.size]
      exact room
    have rw1 : ∀ e ∈ es1.toList, ∃ x tk, e = ((strKind P w).hash x, Value.str x tk) := fun e he => by
      rcases List.mem_append.mp (p1.mem_iff.mp he) with z | z
      · exact R.rows e z
      · exact ⟨x, tk, List.mem_singleton.mp z⟩
    have pm1 : (es1.toList.map rkT).Perm (L ++ [x]) := by
      refine (p1.map rkT).trans ?_
      rw [List.map_append]
      exact List.Perm.append_right _ R.perm
    have nd1 : (L ++ [x]).Nodup := List.nodup_append.mpr ⟨R.nodup, by simp, fun y hy z hz e => hm (by rw [← List.mem_singleton.mp hz, ← e]; exact hy)⟩
    have ld1 : w.params.followText "set-order" = true ∨ t1.led = true := R.led.imp id fun z => by rw [l1]; exact z
    have gave_ : ∀ (b : Bool) (s1 : Shared) (Q' : Unit → Shared → Prop), Q' () s1 → wpAny (model P w) A (match b with | true => rule "set.scan.the-table-gave-way" | false => pure ()) Q' E s1 := fun b s1 Q' z => by
      cases b with
      | true => exact wpAny_rule z
      | false => exact wpAny_pure z
    refine wpAny_bind (gave_ _ _ _ ?_)
    have gone : ∀ h1, Heap.SameBut a s.heap h1 → TxAt P w a (L ++ [x]) h1 → Q true { s with heap := h1 } := fun h1 b r => q true h1 b r
    split
    · refine wpAny_bind ?_
      rw [hashByValue_scannable 8 sc]
      refine wpAny_pure ?_
      refine tx_tail (L1 := L ++ [x]) ?_ R.here R.exact_ R.data ?_ few1 fun h1 b r => ?_
      · exact gave_
      · intro h1 o1 ep1 a1 a2 a3
        refine ⟨a1, a2, a3, rw1, pm1, nd1, few1, ?_, ?_, ?_⟩
        · first | exact f1 | (split <;> first | exact f1 | exact SetTable.fits_plain_off f1)
        · first | exact r1 | (split <;> exact r1)
        · first | exact ld1 | (split <;> exact ld1)
      · dsimp only
        exact wpAny_pure (gone h1 b r)
    · refine wpAny_bind (wpAny_pure ?_)
      simp only [↓reduceIte]
      refine tx_tail (L1 := L ++ [x]) ?_ R.here R.exact_ R.data ?_ few1 fun h1 b r => ?_
      · exact gave_
      · exact fun h1 o1 ep1 a1 a2 a3 => ⟨a1, a2, a3, rw1, pm1, nd1, few1, f1, r1, ld1⟩
      · dsimp only
        exact wpAny_pure (gone h1 b r)
end
end L2.EV
set_option Elab.async false
set_option linter.all false
set_option maxRecDepth 100000
set_option maxHeartbeats 4000000
namespace L2.K03
open PySem PySem.Spec PyProof.Rows L2.EV L2 Srt
/-! ### sets of texts over the layer: made of a list, added to, sorted -/
def SetX (P : Program) (w : World) (a : Addr) (L : List Str) : HO := .ext (TxAt P w a L)
theorem setX_ok {P : Program} {w : World} {H : Hp} {h : Heap} {a : Addr} {L : List Str} (R : TxAt P w a L h) : ObjOk P w H h a (SetX P w a L) := by
  have ⟨o, _, _, _, r⟩ := R
  exact ⟨R, ⟨o, r.here⟩, fun h1 h2 p k => TxAt.keep p k⟩
section
variable {X : Cx}
theorem setX_get {pins : List (Addr × Obj)} {σ : St} {H : Hp} {s : Shared} {a : Addr} {L : List Str} (I : Inv X pins σ H s) (ha : H a = some (SetX X.prog X.w a L)) : TxAt X.prog X.w a L s.heap := (I.hok a _ ha).1
theorem tx_fresh {P : Program} {w : World} {h : Heap} {a : Addr} (e : h.get? a = some (newS w)) : TxAt P w a [] h := by
  refine ⟨_, #[], 0, _, e, ⟨rfl, rfl, rfl⟩, rfl, fun e he => by simp at he, List.Perm.refl _, List.nodup_nil, by decide, rfl, List.Pairwise.nil, ?_⟩
  show _ ∨ (!w.params.followText "set-order") = true
  cases w.params.followText "set-order" with
  | true => exact .inl rfl
  | false => exact .inr rfl
def BagX (P : Program) (w : World) (S : Addr) (ws : List Str) (i : Nat) (h : Heap) : Prop := ∃ L, TxAt P w S L h ∧ (∀ x, x ∈ L ↔ x ∈ ws.take i) ∧ L.length ≤ i ∧ L.Nodup
theorem bag_texts {P : Program} {w : World} {A : Around} {S : Addr} {h0 : Heap} {items : Array Value} {ws : List Str} (few : items.size ≤ 1000) (hv : ∀ (i : Nat) (v : Value), items[i]? = some v → ∃ x tk, ws[i]? = some x ∧ v = .str x tk) :
    Bag P w A S h0 (fun i v => items[i]? = some v) items.size (BagX P w S ws) where
  stay := fun i h h' ⟨L, t, m, n, d⟩ k _ => ⟨L, t.keep k, m, n, d⟩
  put := fun i v s E Q lt pv ⟨L, t, m, n, d⟩ k q => by
    obtain ⟨x, tk, ex, rfl⟩ := hv i v pv
    unfold setAdd
    refine wpAny_holding (wpAny_bind ((strKind P w).pyHash (strKind_is P w x tk) ?_))
    refine tx_add (s := { s with toks := s.toks + 1 }) t (by unfold scanBound; omega) fun c h1 b r => q c h1 (s.toks + 1) (Nat.le_succ _) b ⟨_, r, fun y => ?_, ?_, ?_⟩
    · have et : ws.take (i + 1) = ws.take i ++ [x] := by rw [List.take_succ, ex]; rfl
      rw [et, List.mem_append, List.mem_singleton, ← m y]
      by_cases hx : x ∈ L
      · rw [if_pos hx]
        exact ⟨.inl, fun z => z.elim id fun e => e ▸ hx⟩
      · rw [if_neg hx, List.mem_append, List.mem_singleton]
    · split
      · omega
      · rw [List.length_append, List.length_singleton]; omega
    · split
      · exact d
      · next hx => exact List.nodup_append.mpr ⟨d, by simp, fun y hy z hz e => hx (by rw [← List.mem_singleton.mp hz, ← e]; exact hy)⟩
theorem strs_at : ∀ {ws : List Str} {us : List Value}, Vals (ws.map V.str) us → ∀ (i : Nat) (v : Value), us[i]? = some v → ∃ x tk, ws[i]? = some x ∧ v = .str x tk
  | [], _, .nil, i, v, h => by simp at h
  | x :: ws, _, .cons r t, 0, v, h => by
    obtain ⟨tk, rfl⟩ := r
    cases h
    exact ⟨x, tk, rfl, rfl⟩
  | x :: ws, _, .cons r t, i + 1, v, h => strs_at t i v (by simpa using h)
/-- set(xs) of texts -/
def rSetX (K : PySem.W.Frag) (P : Program) (w : World) : List V → Hp → VK → Prop := fun xs H Q => ∃ (l : Addr) (ws : List Str), xs = [.ref l] ∧ SqL K H l (ws.map V.str) ∧ ws.length ≤ 900 ∧
  ∀ p L, H p = none → L.Nodup → (∀ x, x ∈ L ↔ x ∈ ws) → L.length ≤ ws.length → Q (.ref p) (upd H p (SetX P w p L))
theorem cr_setX (hc : X.calm = true) : CallR X (.type "set") (rSetX X.K X.prog X.w) := by
  intro pins s σ H xs us Q I r h
  obtain ⟨l, ws, rfl, hq, hn, q⟩ := h
  obtain ⟨u, rfl, rx⟩ := vals1 r
  cases rx
  obtain ⟨its, rv, pl, _⟩ := I.list hq
  have hl : its.toArray.size = ws.length := by rw [List.size_toArray, ← rv.length, List.length_map]
  refine bag_call (T := BagX X.prog X.w s.heap.objs.size ws) (I.ok.hd hc) pl.isList (bag_texts (by omega) fun i v h1 => strs_at rv i v (by simpa using h1)) (fun h' e => ⟨[], tx_fresh e, fun x => by simp, Nat.le_refl _, List.nodup_nil⟩) fun h' tk t kp => ?_
  obtain ⟨L, t, m, n, d⟩ := t
  rw [hl] at n
  rw [hl, List.take_length] at m
  exact ⟨.ref s.heap.objs.size, _, I.laid (t' := tk) kp (Nat.le_refl _) (setX_ok t), rfl, q _ L (I.hok.fresh (Nat.le_refl _)) d m n⟩
/-- s.add(x) of a text -/
def tSAddX (P : Program) (w : World) (to te : TE) : TE := fun σ H Q => to σ H fun x H1 => ∃ a L, x = .ref a ∧ H1 a = some (SetX P w a L) ∧ te σ H1 fun y H2 => ∃ z L', y = .str z ∧ H2 a = some (SetX P w a L') ∧ L'.length < 1000 ∧ Q .non (upd H2 a (SetX P w a (if z ∈ L' then L' else L' ++ [z])))
theorem tx_type {P : Program} {w : World} {a : Addr} {L : List Str} {s : Shared} (R : TxAt P w a L s.heap) : s.TypeIs (.ref a) "set" := by
  obtain ⟨o, es, ep, t, r⟩ := R
  exact ⟨o, r.here, r.exact_.1⟩
theorem pe_saddX {o e : Expr} {to te : TE} {apos cpos : Pos} (ho : PE X o to) (he : PE X e te) (hb : attributeBase o "add" X.env (eval o X.env) = eval o X.env := by rfl)
    (hf : ((backTo cpos (starEach [e] X.env)).all (fun x => !x.1) && (backToKw cpos (keywordEach [] X.env)).all (fun x => x.1.isSome) && decide (([e] : List Expr).length + ([] : List Keyword).length + (if ([] : List Keyword).isEmpty then 0 else 1) < 30)) = true := by rfl)
    (hl : (apos.endLine == cpos.line) = true := by rfl) (hs : starEach [e] X.env = (false, eval e X.env) :: starEach [] X.env := by rfl) :
    PE X (.Call (.Attribute o "add" apos) [e] [] cpos) (tSAddX X.prog X.w to te) := by
  have ha := pa_cons he pa_nil hs
  refine ⟨fun pins s σ H Q I h => ?_⟩
  refine wpAny_Call_method_late hb hf hl rfl (thn (ho.run pins s σ H _ I h) fun v s1 ⟨x, H1, I1, r1, a, L, ex, g1, q1⟩ => ?_)
  subst ex
  cases (show v = Value.ref a from r1)
  have R := setX_get I1 g1
  have nd : ∀ b, Value.ref a = .ref b → ∃ ob, s1.heap.get? b = some ob ∧ ob.dict = none := fun b e => by
    cases e
    have ⟨ob, es, ep, t, r⟩ := R
    exact ⟨ob, r.here, r.exact_.2.1⟩
  refine ⟨"set", "set.add", F.plainAttrs_set, F.slot_set_add, F.type_set_add, tx_type R, nd, ?_⟩
  have hA := ha.run cpos pins s1 σ H1 (fun vs H2 => match vs with | [y] => ∃ z L', y = .str z ∧ H2 a = some (SetX X.prog X.w a L') ∧ L'.length < 1000 ∧ Q .non (upd H2 a (SetX X.prog X.w a (if z ∈ L' then L' else L' ++ [z]))) | _ => False) I1 q1
  rw [hs] at hA ⊢
  refine Calls.callWith_builtin (by rfl) (Calls.evalArgs_plain ?_)
  refine thn hA fun us s2 ⟨vs, H2, I2, r2, q2⟩ => ?_
  match vs, r2, q2 with
  | [y], r2, ⟨z, L', ey, g2, few, q2⟩ =>
    subst ey
    obtain ⟨u, rfl, ru⟩ := vals1 r2
    obtain ⟨tk, rfl⟩ := ru
    have R2 := setX_get I2 g2
    refine wpAny_call_entry F.slot_set_add (tx_type R2) F.entry_set_add ?_ (F.args_set_add_2 _ _)
    unfold Builtin.«set.add»
    unfold Builtin.Frozenset.oneOther
    simp only [List.isEmpty_nil, bind_assoc]
    unfold Builtin.Frozenset.addrOf
    unfold setAdd
    refine wpAny_bind (wpAny_pure ?_)
    dsimp only
    refine wpAny_bind (wpAny_holding (wpAny_bind ((strKind X.prog X.w).pyHash (strKind_is X.prog X.w z tk) ?_)))
    refine tx_add (s := { s2 with toks := s2.toks + 1 }) R2 (by unfold scanBound; omega) fun c h1 b r => ?_
    show wpAny _ _ (ret Value.none) _ _ _
    refine wpAny_pure ⟨_, rfl, ?_⟩
    have he : ∃ u, h1.get? a = some u := by
      have ⟨o, _, _, _, k⟩ := r
      exact ⟨o, k.here⟩
    exact ⟨.non, _, I2.write (e := a) (t' := s2.toks + 1) (by rw [g2]; trivial) (.inl rfl) (fun c u hc hu => (b.2 c hc).trans hu) he (setX_ok r), rfl, q2⟩
end
end L2.K03
set_option Elab.async false
set_option linter.all false
set_option maxRecDepth 100000
set_option maxHeartbeats 4000000
namespace L2.K03
open PySem PySem.Spec PyProof.Rows L2.EV L2
/-! ### sorted(set of texts) -/
theorem tx_each {P : Program} {w : World} {h : Heap} {a : Addr} {L : List Str} {o : Obj} {es : Array (Int × Value)} {ep : Nat} {t : SetTable} (R : TxS P w h a L o es ep t) {vs : List Value} (pm : vs.Perm (es.toList.map (·.2))) :
    ∃ ws : List Str, ws.Perm L ∧ PySem.W.EachIs (fun u x => ∃ tk, u = Value.str x tk) vs ws := by
  have all : ∀ v ∈ vs, ∃ x tk, v = Value.str x tk := fun v hv => by
    obtain ⟨e, he, q⟩ := List.mem_map.mp (pm.mem_iff.mp hv)
    obtain ⟨x, tk, rfl⟩ := R.rows e he
    exact ⟨x, tk, q.symm⟩
  refine ⟨vs.map fun v => rkT (0, v), ?_, ?_⟩
  · refine (pm.map _).trans ?_
    rw [List.map_map]
    refine List.Perm.trans (List.Perm.of_eq (List.map_congr_left fun e he => ?_)) R.perm
    obtain ⟨x, tk, rfl⟩ := R.rows e he
    rfl
  · clear pm
    induction vs with
    | nil => exact .nil
    | cons v vs ih =>
      obtain ⟨x, tk, rfl⟩ := all v List.mem_cons_self
      exact .cons ⟨tk, rfl⟩ (ih fun u hu => all u (List.mem_cons_of_mem _ hu))
theorem each_imp {α β : Type} {R S : α → β → Prop} (h : ∀ a b, R a b → S a b) : ∀ {l : List α} {m : List β}, PySem.W.EachIs R l m → PySem.W.EachIs S l m
  | _, _, .nil => .nil
  | _, _, .cons a b => .cons (h _ _ a) (each_imp h b)
theorem vals_each : ∀ {vs : List Value} {ws : List Str}, PySem.W.EachIs (fun u x => ∃ tk, u = Value.str x tk) vs ws → Vals (ws.map V.str) vs
  | _, _, .nil => .nil
  | _, _, .cons ⟨tk, e⟩ b => .cons ⟨tk, e⟩ (vals_each b)
theorem sorted_texts {P : Program} {w : World} {A : Around} {E : Value → Shared → Prop} {s : Shared} {a : Addr} {L : List Str} {Q : Value → Shared → Prop} (R : TxAt P w a L s.heap) (hh : A.handled = none) (few : L.length ≤ 1000) (hu : A.units + 64 < cLine)
    (q : ∀ s2 p (out : List Value) (c : Nat), (∀ b o, s.heap.get? b = some o → s2.heap.get? b = some o) → s2.gens = s.gens → s2.os = s.os → s.heap.objs.size ≤ p → s2.heap.get? p = some (seqObj "list" out.toArray c) → Vals ((srtW L).map V.str) out → Q (.ref p) s2) :
    wpAny (model P w) A (call (.builtin "sorted") [.ref a]) Q E s := by
  obtain ⟨o, es, ep, t, R⟩ := R
  refine Calls.call_function_entry kind_sorted plain_sorted entry_sorted (args_sorted1 _) ?_
  unfold Builtin.«sorted»
  refine wpAny_bind (m := checkCount "sorted" 1 1 _) (wpAny_pure ?_)
  refine wpAny_bind (collect_set (A := A.in1) hh ⟨o, R.here, R.exact_.1, R.data⟩ R.fits R.few R.ris R.led fun s1 vs k1 z1 g1 o1 pm => ?_)
  obtain ⟨ws, pw, ew⟩ := tx_each R pm
  have lv : vs.length ≤ sizeLine := by
    rw [ew.length, pw.length_eq, sizeLine_eq]
    omega
  refine wpAny_bind (wpAny_newList ?_ lv)
  have gL : (s1.heap.push (seqObj "list" vs.toArray 0)).get? s1.heap.objs.size = some (seqObj "list" vs.toArray 0) := Heap.get?_push_size _ rfl
  have rd : ∀ h : Heap, PySem.W.EachIs (fun u x => ∃ as, Reads h u (PyData.str x) as) vs ws := fun h => each_imp (fun u x ⟨tk, e⟩ => ⟨_, by rw [e]; exact .str x tk⟩) ew
  have al : PySem.W.AllAlike (ws.map PyData.str) := PySem.W.AllAlike.of fun x y => by simp [PySem.W.alike]
  have so : PySem.W.Sortable (ws.map PyData.str) := PySem.W.Sortable.others fun x => ⟨fun e => by (cases e), fun xs e => by cases e⟩
  refine wpAny_bind (wpAny_holding (wpAny_call_entry slot_list_sort ⟨_, gL, rfl⟩ entry_list_sort (PySem.W.list_sort_vals gL (PySem.W.SortsAt.data (PySem.W.each_map (R := fun v d => ∃ as, Reads _ v d as) PyData.str (rd _)) al so fun d hd => ?_) lv ⟨_, rfl, ?_⟩) (args_list_sort _)))
  · obtain ⟨x, _, rfl⟩ := List.mem_map.mp hd
    show A.in1.in1.units + PyData.depth (.str x) < cLine
    simp only [PyData.depth, Around.in1_units]
    omega
  · have eo := PySem.W.sortVals_data (h' := _) (enc := PyData.str) (R := fun u x => ∃ tk, u = Value.str x tk) false ew (rd (PySem.W.sortingHeap (s1.heap.push (seqObj "list" vs.toArray 0)) s1.heap.objs.size vs)) al
    obtain ⟨c, hc⟩ := sortedHeap_at (vs := vs) (out := (PySem.W.sortVals (PySem.W.dataKind (PySem.W.sortingHeap (s1.heap.push (seqObj "list" vs.toArray 0)) s1.heap.objs.size vs) (ws.map PyData.str)) false vs vs).toArray) gL
    have es2 : srtW ws = srtW L := srtW_eq pw
    refine wpAny_pure ⟨_, rfl, q _ s1.heap.objs.size _ c (fun b u e => ?_) g1 o1 z1 hc ?_⟩
    · have e1 := k1 b u e
      have lt := Heap.lt_size e1
      show (sortedHeap (s1.heap.push (seqObj "list" vs.toArray 0)) s1.heap.objs.size vs _).get? b = some u
      rw [sortedHeap_old (Nat.ne_of_lt lt) (by rw [size_push']; exact Nat.lt_succ_of_lt lt)]
      exact Heap.get?_push_of_some _ e1
    · rw [← es2]
      exact vals_each eo
/-- sorted(s), s a set of texts -/
def rSortedX (P : Program) (w : World) : List V → Hp → VK → Prop := fun xs H Q => ∃ (a : Addr) (L : List Str), xs = [.ref a] ∧ H a = some (SetX P w a L) ∧ L.length ≤ 1000 ∧ ∀ p, H p = none → Q (.ref p) (upd H p (.lst ((srtW L).map V.str)))
theorem cr_sortedX {X : Cx} (hc : X.calm = true) (hu : X.A.units + 64 < cLine) : CallR X (.builtin "sorted") (rSortedX X.prog X.w) := by
  intro pins s σ H vs us Q I r h
  obtain ⟨a, L, rfl, ha, few, q⟩ := h
  rw [Vals.ref1 r]
  refine sorted_texts (setX_get I ha) (I.ok.hd hc) few hu fun s2 p out c k g o hp hg hv => ?_
  have hn : H p = none := I.hok.fresh hp
  have z : ((srtW L).map V.str).length ≤ sizeLine := by
    rw [List.length_map, (srtW_perm L).length_eq, sizeLine_eq]
    omega
  have J : Inv X pins σ (upd H p (.lst ((srtW L).map V.str))) { s with heap := s2.heap, gens := s2.gens, drawn := s2.drawn, toks := s2.toks } :=
    I.call (ch := []) (Un.laid k hp hn) (I.hok.laid k hp ⟨z, out, c, hv, hg⟩) (by rw [g]; exact I.bare) (fun _ y => nomatch y)
  have e : s2 = { s with heap := s2.heap, gens := s2.gens, drawn := s2.drawn, toks := s2.toks } := by
    cases s2
    cases s
    cases o
    rfl
  rw [e]
  exact ⟨.ref p, _, J, rfl, q p hn⟩
end L2.K03
set_option Elab.async false
set_option linter.all false
set_option maxRecDepth 100000
set_option maxHeartbeats 4000000
namespace L2.K03
open PySem PySem.Spec PyProof.Rows L2.EV
/-! ### Manual's methods -/
structure GotM (P : Program) (w : World) (K : PySem.W.Frag) (mg : Str → Option Value) (base : Heap) (k : Nat) (m : Str) (ps : List Str) (sp : Sp) : Prop where
  ex : ∃ f fd, FnOk P w K mg base CX0 k f fd ps sp ∧ Binds K fd ps [] ∧ Meth K (aC K) m f
theorem pe_gotM0 {X : Cx} {k j : Nat} {m : Str} {ps : List Str} {sp : Sp} {o : Expr} {to : TE} {pos apos : Pos} {pl : Sem Bool} (g : GotM X.prog X.w X.K X.mg X.base k m ps sp) (C : Mc X.K) (hr : Room j X.A) (ho : PE X o to) (hk : k ≤ j := by decide)
    (ht : eval (.Call (.Attribute o m apos) [] [] pos) X.env = (do
      let v ← eval o X.env
      standAt apos.atName
      let (f, fst) ← holding [v] (getMethod v m pl)
      callWith pos f fst (backTo pos (starEach [] X.env)) (backToKw pos (keywordEach [] X.env))) := by rfl) : PE X (.Call (.Attribute o m apos) [] [] pos) (tMeth (aC X.K) m sp [] E0 to tNil) := by
  obtain ⟨f, fd, F, b, mt⟩ := g.ex
  exact pe_meth0 ho C.c mt F (hr.mono hk) b .nil pass0 ht
abbrev sMm : Stmt := inClass (top 27) 1
abbrev sMb : Stmt := inClass (top 27) 2
abbrev sMe : Stmt := inClass (top 27) 3
theorem scMm : FnScope ["self"] ["self"] (defScope sMm) := ⟨rfl, rfl, rfl, by decide +kernel, rfl, by decide +kernel, by decide +kernel⟩
theorem scMb : FnScope ["self"] ["self"] (defScope sMb) := ⟨rfl, rfl, rfl, by decide +kernel, rfl, by decide +kernel, by decide +kernel⟩
theorem scMe : FnScope ["self"] ["self"] (defScope sMe) := ⟨rfl, rfl, rfl, by decide +kernel, rfl, by decide +kernel, by decide +kernel⟩
def spMm (K : PySem.W.Frag) : Sp := fun vs H Q _ => ∃ (x : Addr) (ms : List Mn) (bs es : List Str), vs = [.ref x] ∧ ManuAt K H x ms bs es ∧ ∀ p ys, H p = none → Mans H ys ms → Q (.ref p) (upd H p (.lst ys))
def spMb (K : PySem.W.Frag) : Sp := fun vs H Q _ => ∃ (x : Addr) (ms : List Mn) (bs es : List Str), vs = [.ref x] ∧ ManuAt K H x ms bs es ∧ ∀ p, H p = none → Q (.ref p) (upd H p (.lst (bs.map V.str)))
def spMe (K : PySem.W.Frag) : Sp := fun vs H Q _ => ∃ (x : Addr) (ms : List Mn) (bs es : List Str), vs = [.ref x] ∧ ManuAt K H x ms bs es ∧ ∀ p, H p = none → Q (.ref p) (upd H p (.lst (es.map V.str)))
/-- a manual's field names are no methods -/
theorem ManuAt.plain {K : PySem.W.Frag} {H : Hp} {x : Addr} {ms : List Mn} {bs es : List Str} (h : ManuAt K H x ms bs es) : ∃ dx fs, H x = some (.ins (aC K) dx fs) ∧ fs.lookup ("manners" : Str) = none ∧ fs.lookup ("beginnings" : Str) = none ∧ fs.lookup ("ends" : Str) = none := by
  obtain ⟨dx, p, q, r, fs, ys, h1, _, _, _, hn, _⟩ := h
  exact ⟨dx, fs, h1, hn⟩
section
variable {P : Program} {w : World} {K : PySem.W.Frag} {mg : Str → Option Value} {base : Heap} {f : Addr} {fd : FuncData}
theorem ok_mm (F : FunD K "manners" "Manual.manners" (defArgs sMm) (defBody sMm) (defScope sMm) [] [] f fd) (C : Mc K) (mLi : mg "list" = none) : FnOk P w K mg base CX0 1 f fd ["self"] (spMm K) := by
  refine F.ok scMm (fun vs H Q E h => ?_) (fun cdv A outer s H vs Q E hr h => ?_)
  · obtain ⟨x, ms, bs, es, rfl, _⟩ := h
    rfl
  · obtain ⟨x, ms, bs, es, rfl, ⟨dx, p, q, r, fs, ys, h1, h2, h3, h4, hn, h5, h6, h7, h8⟩, k⟩ := h
    refine ⟨_, PSs.nox (pss_one (ps_ret (pe_callTy call_list_of (by rfl) mLi (by decide +kernel) (pa_cons (pe_fld (pv 0) rfl) pa_nil)))), ?_⟩
    exact ⟨_, rfl, x, aC K, dx, fs, .ref p, rfl, h1, C.c, C.m, h2, p, ys, rfl, .inl (SqL.of h5), fun l hl => k l ys hl h6⟩
theorem ok_mb (F : FunD K "beginnings" "Manual.beginnings" (defArgs sMb) (defBody sMb) (defScope sMb) [] [] f fd) (C : Mc K) (mLi : mg "list" = none) : FnOk P w K mg base CX0 1 f fd ["self"] (spMb K) := by
  refine F.ok scMb (fun vs H Q E h => ?_) (fun cdv A outer s H vs Q E hr h => ?_)
  · obtain ⟨x, ms, bs, es, rfl, _⟩ := h
    rfl
  · obtain ⟨x, ms, bs, es, rfl, ⟨dx, p, q, r, fs, ys, h1, h2, h3, h4, hn, h5, h6, h7, h8⟩, k⟩ := h
    refine ⟨_, PSs.nox (pss_one (ps_ret (pe_callTy call_list_of (by rfl) mLi (by decide +kernel) (pa_cons (pe_fld (pv 0) rfl) pa_nil)))), ?_⟩
    exact ⟨_, rfl, x, aC K, dx, fs, .ref q, rfl, h1, C.c, C.b, h3, q, _, rfl, .inl (SqL.of h7), fun l hl => k l hl⟩
theorem ok_me (F : FunD K "ends" "Manual.ends" (defArgs sMe) (defBody sMe) (defScope sMe) [] [] f fd) (C : Mc K) (mLi : mg "list" = none) : FnOk P w K mg base CX0 1 f fd ["self"] (spMe K) := by
  refine F.ok scMe (fun vs H Q E h => ?_) (fun cdv A outer s H vs Q E hr h => ?_)
  · obtain ⟨x, ms, bs, es, rfl, _⟩ := h
    rfl
  · obtain ⟨x, ms, bs, es, rfl, ⟨dx, p, q, r, fs, ys, h1, h2, h3, h4, hn, h5, h6, h7, h8⟩, k⟩ := h
    refine ⟨_, PSs.nox (pss_one (ps_ret (pe_callTy call_list_of (by rfl) mLi (by decide +kernel) (pa_cons (pe_fld (pv 0) rfl) pa_nil)))), ?_⟩
    exact ⟨_, rfl, x, aC K, dx, fs, .ref r, rfl, h1, C.c, C.e, h4, r, _, rfl, .inl (SqL.of h8), fun l hl => k l hl⟩
end
/-! ### each once -/
def once : List Str → List Str
  | [] => []
  | x :: l => if x ∈ once l then once l else x :: once l
theorem once_mem {x : Str} : ∀ {l : List Str}, x ∈ once l ↔ x ∈ l
  | [] => Iff.rfl
  | y :: l => by
    have ih := once_mem (x := x) (l := l)
    unfold once
    split
    · next h =>
      rw [ih, List.mem_cons]
      exact ⟨.inr, fun z => z.elim (fun e => by rw [e]; exact once_mem.mp h) id⟩
    · rw [List.mem_cons, List.mem_cons, ih]
theorem once_nodup : ∀ l : List Str, (once l).Nodup
  | [] => List.nodup_nil
  | y :: l => by
    unfold once
    split
    · exact once_nodup l
    · next h => exact List.nodup_cons.mpr ⟨h, once_nodup l⟩
theorem perm_same : ∀ {l m : List Str}, l.Nodup → m.Nodup → (∀ x, x ∈ l ↔ x ∈ m) → l.Perm m
  | [], m, _, _, h => by
    have : m = [] := List.eq_nil_iff_forall_not_mem.mpr fun x hx => by
      have := (h x).mpr hx
      cases this
    rw [this]
  | a :: l, m, dl, dm, h => by
    have am : a ∈ m := (h a).mp List.mem_cons_self
    obtain ⟨nl, dl⟩ := List.nodup_cons.mp dl
    refine List.Perm.trans (List.Perm.cons a (perm_same dl (dm.erase a) fun x => ?_)) (List.perm_cons_erase am).symm
    rw [dm.mem_erase_iff, ← h x, List.mem_cons]
    constructor
    · exact fun hx => ⟨fun e => nl (e ▸ hx), .inr hx⟩
    · rintro ⟨ne, e | hx⟩
      · exact absurd e ne
      · exact hx
/-- texts, each once, in their order -/
def setW (l : List Str) : List Str := srtW (once l)
theorem setW_eq {L l : List Str} (d : L.Nodup) (m : ∀ x, x ∈ L ↔ x ∈ l) : srtW L = setW l := srtW_eq (perm_same d (once_nodup l) fun x => (m x).trans once_mem.symm)
theorem setW_same {l m : List Str} (h : ∀ x, x ∈ l ↔ x ∈ m) : setW l = setW m := setW_eq (once_nodup l) fun x => once_mem.trans (h x)
/-! ### all_rooms -/
def roomsL (ms : List Mn) (bs es : List Str) : List Str := bs ++ es ++ ms.flatMap fun m => [m.r, m.s]
abbrev sAR : Stmt := top 21
abbrev nAR : List Str := ["manual", "rooms", "manner"]
theorem scAR : FnScope nAR ["manual"] (defScope sAR) := ⟨rfl, rfl, rfl, by decide +kernel, rfl, by decide +kernel, by decide +kernel⟩
def spAR (K : PySem.W.Frag) : Sp := fun vs H Q _ => ∃ (x : Addr) (ms : List Mn) (bs es : List Str), vs = [.ref x] ∧ ManuAt K H x ms bs es ∧ ms.length ≤ 100 ∧ bs.length ≤ 100 ∧ es.length ≤ 100 ∧
  ∀ p H', Same H H' → H p = none → H' p = some (.lst ((setW (roomsL ms bs es)).map V.str)) → Q (.ref p) H'
section
variable {P : Program} {w : World} {K : PySem.W.Frag} {mg : Str → Option Value} {base : Heap} {f : Addr} {fd : FuncData}
theorem ok_ar (F : FnP K "all_rooms" sAR f fd) (C : Mc K) (GM : GotM P w K mg base 1 "manners" ["self"] (spMm K)) (GB : GotM P w K mg base 1 "beginnings" ["self"] (spMb K)) (GE : GotM P w K mg base 1 "ends" ["self"] (spMe K)) (mSe : mg "set" = none) (mSo : mg "sorted" = none) :
    FnOk P w K mg base CX0 2 f fd ["manual"] (spAR K) := by
  refine F.ok scAR (fun vs H Q E h => ?_) (fun cdv A outer s H vs Q E hr h => ?_)
  · obtain ⟨x, ms, bs, es, rfl, _⟩ := h
    rfl
  · obtain ⟨x, ms, bs, es, rfl, hm, l1, l2, l3, q⟩ := h
    have hu := hr.units
    refine ⟨_, PSs.nox (pss_cons (ps_set (i := 1) scAR.nd rfl (Or.inl rfl) (pe_callTy (cr_setX rfl) (by rfl) mSe (by decide +kernel) (pa_cons (pe_op op_cat (pe_gotM0 GB C hr (pv 0)) (pe_gotM0 GE C hr (pv 0))) pa_nil)))
      (pss_cons (ps_for PassesOwn.never rfl (pi_list (pe_gotM0 GM C hr (pv 0))) (pg_name (i := 2) scAR.nd rfl (Or.inl rfl))
        (pss_cons (ps_expr (pe_saddX (pv 1) (pe_ix ix_tup (pv 2) pe_int (fun _ _ => rfl)))) (pss_one (ps_expr (pe_saddX (pv 1) (pe_ix ix_tup (pv 2) pe_int (fun _ _ => rfl)))))))
      (pss_one (ps_ret (pe_callB (cr_sortedX rfl hu) (by rfl) mSo (by decide +kernel) (pa_cons (pv 1) pa_nil)))))), ?_⟩
    obtain ⟨dx, fs, hx, n1, n2, n3⟩ := hm.plain
    refine ⟨_, rfl, x, dx, fs, rfl, hx, n2, x, ms, bs, es, rfl, hm, fun pb hb => ?_⟩
    obtain ⟨H1, e1, s1, g1⟩ : ∃ H1, H1 = upd H pb (.lst (bs.map V.str)) ∧ Same H H1 ∧ H1 pb = some (.lst (bs.map V.str)) := ⟨_, rfl, same_upd hb, upd_same⟩
    rw [← e1]
    clear e1
    refine ⟨_, rfl, x, dx, fs, rfl, s1 _ _ hx, n3, x, ms, bs, es, rfl, hm.same s1, fun pe he => ?_⟩
    obtain ⟨H2, e2, s2, g2⟩ : ∃ H2, H2 = upd H1 pe (.lst (es.map V.str)) ∧ Same H1 H2 ∧ H2 pe = some (.lst (es.map V.str)) := ⟨_, rfl, same_upd he, upd_same⟩
    rw [← e2]
    clear e2
    refine ⟨pb, pe, _, _, rfl, rfl, s2 _ _ g1, g2, ?_, fun pc hc => ?_⟩
    · rw [List.length_map, List.length_map, sizeLine_eq]
      omega
    obtain ⟨H3, e3, s3, g3⟩ : ∃ H3, H3 = upd H2 pc (.lst (bs.map V.str ++ es.map V.str)) ∧ Same H2 H3 ∧ H3 pc = some (.lst ((bs ++ es).map V.str)) := ⟨_, rfl, same_upd hc, by rw [upd_same, List.map_append]⟩
    rw [← e3]
    clear e3
    refine ⟨pc, bs ++ es, rfl, SqL.of g3, by rw [List.length_append]; omega, fun S L hS dL mL lL => ?_⟩
    obtain ⟨H4, e4, s4, g4⟩ : ∃ H4, H4 = upd H3 S (SetX P w S L) ∧ Same H3 H4 ∧ H4 S = some (SetX P w S L) := ⟨_, rfl, same_upd hS, upd_same⟩
    show tSeq _ _ _ _ (upd H3 S (SetX P w S L))
    rw [← e4]
    clear e4
    have s03 := s1.trans (s2.trans s3)
    have s04 := s03.trans s4
    refine ⟨_, rfl, x, dx, fs, rfl, s04 _ _ hx, n1, x, ms, bs, es, rfl, hm.same s04, fun pm ys hp hy => ?_⟩
    obtain ⟨H5, e5, s5, g5⟩ : ∃ H5, H5 = upd H4 pm (.lst ys) ∧ Same H4 H5 ∧ H5 pm = some (.lst ys) := ⟨_, rfl, same_upd hp, upd_same⟩
    rw [← e5]
    clear e5
    have hy5 := hy.same s5
    have nS : pm ≠ S := fun z => by rw [z, g4] at hp; cases hp
    refine ⟨pm, rfl, ⟨_, SqL.of g5⟩, ?_⟩
    have base0 : ∀ z, z ∈ L ↔ z ∈ roomsL [] bs es := fun z => by
      rw [mL z]
      unfold roomsL
      simp
    refine for_list (K := K) (a := pm) (xs := ys) (fun i σ H' => ∃ v2 L', σ = [some (.ref x), some (.ref S), v2] ∧ (∀ c o, c ≠ S → H5 c = some o → H' c = some o) ∧ H' S = some (SetX P w S L') ∧ L'.Nodup ∧ (∀ z, z ∈ L' ↔ z ∈ roomsL (ms.take i) bs es) ∧ L'.length ≤ 200 + 2 * i)
      ⟨none, L, rfl, fun _ _ _ e => e, s5 _ _ g4, dL, by rw [List.take_zero]; exact base0, by rw [List.length_append] at lL; omega⟩ (fun i σ H' _ ⟨_, _, _, k, _⟩ => SqL.of (k _ _ nS g5)) ?_ ?_
    · rintro i v σ H' hv ⟨v2, L', rfl, k, gS, dL', mL', lL'⟩
      have li : i < ms.length := by
        have := (List.getElem?_eq_some_iff.mp hv).1
        rw [hy.1] at this
        exact this
      obtain ⟨m, em⟩ : ∃ m, ms[i]? = some m := ⟨_, List.getElem?_eq_getElem li⟩
      obtain ⟨a, t, rfl, ga, _⟩ := hy5.2 i v m hv em
      have na : a ≠ S := fun z => by
        rw [z, s5 _ _ g4] at ga
        cases ga
      have et : ms.take (i + 1) = ms.take i ++ [m] := by rw [List.take_succ, em]; rfl
      have mem2 : ∀ z, z ∈ roomsL (ms.take (i + 1)) bs es ↔ z ∈ roomsL (ms.take i) bs es ∨ z = m.r ∨ z = m.s := fun z => by
        rw [et]
        unfold roomsL
        simp only [List.flatMap_append, List.mem_append, List.flatMap_cons, List.flatMap_nil, List.mem_cons, List.not_mem_nil, or_false]
        constructor
        · rintro ((h | h) | (h | h | h)) <;> simp [h]
        · rintro (((h | h) | h) | h | h) <;> simp [h]
      have ad : ∀ (z : Str) (M : List Str), M.Nodup → (if z ∈ M then M else M ++ [z]).Nodup ∧ (∀ y, y ∈ (if z ∈ M then M else M ++ [z]) ↔ y ∈ M ∨ y = z) ∧ (if z ∈ M then M else M ++ [z]).length ≤ M.length + 1 := fun z M d => by
        by_cases h : z ∈ M
        · rw [if_pos h]
          exact ⟨d, fun y => ⟨.inl, fun q => q.elim id fun e => e ▸ h⟩, Nat.le_succ _⟩
        · rw [if_neg h]
          refine ⟨List.nodup_append.mpr ⟨d, by simp, fun y hy w hw e => h (by rw [← List.mem_singleton.mp hw, ← e]; exact hy)⟩, fun y => by rw [List.mem_append, List.mem_singleton], by rw [List.length_append]; exact Nat.le_refl _⟩
      obtain ⟨d1, m1, z1⟩ := ad m.r L' dL'
      generalize hL1 : (if m.r ∈ L' then L' else L' ++ [m.r]) = L1 at d1 m1 z1
      obtain ⟨d2, m2, z2⟩ := ad m.s L1 d1
      generalize hL2 : (if m.s ∈ L1 then L1 else L1 ++ [m.s]) = L2 at d2 m2 z2
      refine ⟨_, rfl, S, L', rfl, gS, ?_⟩
      refine ⟨_, rfl, a, _, _, .str m.r, rfl, rfl, SqT.of (k _ _ na ga), atI_nat (j := 0) rfl, m.r, L', rfl, gS, by omega, ?_⟩
      rw [hL1]
      have k1 : ∀ c o, c ≠ S → H' c = some o → upd H' S (SetX P w S L1) c = some o := fun c o n e => by rw [upd_ne n]; exact e
      have gS1 : upd H' S (SetX P w S L1) S = some (SetX P w S L1) := upd_same
      refine ⟨_, rfl, S, L1, rfl, gS1, ?_⟩
      refine ⟨_, rfl, a, _, _, .str m.s, rfl, rfl, SqT.of (k1 _ _ na (k _ _ na ga)), atI_nat (j := 2) rfl, m.s, L1, rfl, gS1, by omega, ?_⟩
      rw [hL2]
      refine ⟨_, L2, rfl, fun c o n e => ?_, upd_same, d2, fun z => ?_, by omega⟩
      · exact (upd_ne n).trans (k1 c o n (k c o n e))
      · rw [m2, m1, mL', mem2]
        exact or_assoc
    · rintro σ H6 ⟨v2, L', rfl, k, gS, dL', mL', lL'⟩
      have lm : ys.length = ms.length := hy.1
      refine ⟨_, rfl, S, L', rfl, gS, by omega, fun p hp' => ?_⟩
      have sF : Same H H6 := fun c o e => k c o (fun z => by
        have := s03 _ _ e
        rw [z, hS] at this
        cases this) (s5 _ _ (s04 _ _ e))
      have fr : H p = none := by
        cases e : H p with
        | none => rfl
        | some o =>
          rw [sF _ _ e] at hp'
          cases hp'
      rw [lm, List.take_length] at mL'
      rw [setW_eq dL' mL']
      exact q p _ (sF.trans (same_upd hp')) fr upd_same
end
end L2.K03
set_option Elab.async false
set_option linter.all false
set_option maxRecDepth 100000
set_option maxHeartbeats 4000000
namespace L2.K03
open PySem PySem.Spec PyProof.Rows L2.EV L2
/-! ### {e for x in ..}, e a text -/
section
variable {X : Cx}
theorem put_text {pins : List (Addr × Obj)} {σ : St} {H : Hp} {s : Shared} {A : Around} {E : Value → Shared → Prop} {D : Addr} {L : List Str} {z : Str} {tk : Tok} {Q : Value → Shared → Prop} (I : Inv X pins σ H s) (g : H D = some (SetX X.prog X.w D L)) (few : L.length < 1000)
    (q : ∀ s', Inv X pins σ (upd H D (SetX X.prog X.w D (if z ∈ L then L else L ++ [z]))) s' → Q .none s') : wpAny (model X.prog X.w) A (call (.builtin "set.add") [.ref D, .str z tk]) Q E s := by
  have R := setX_get I g
  refine wpAny_call_entry F.slot_set_add (tx_type R) F.entry_set_add ?_ (F.args_set_add_2 _ _)
  unfold Builtin.«set.add»
  unfold Builtin.Frozenset.oneOther
  simp only [List.isEmpty_nil, bind_assoc]
  unfold Builtin.Frozenset.addrOf
  unfold setAdd
  refine wpAny_bind (wpAny_pure ?_)
  refine wpAny_bind (wpAny_pure ?_)
  dsimp only
  refine wpAny_bind (wpAny_holding (wpAny_bind ((strKind X.prog X.w).pyHash (strKind_is X.prog X.w z tk) ?_)))
  refine tx_add (s := { s with toks := s.toks + 1 }) R (by unfold scanBound; omega) fun c h1 b r => ?_
  show wpAny _ _ (ret Value.none) _ _ _
  have he : ∃ u, h1.get? D = some u := by
    have ⟨o, _, _, _, k⟩ := r
    exact ⟨o, k.here⟩
  exact wpAny_pure ⟨_, rfl, q _ (I.write (e := D) (t' := s.toks + 1) (by rw [g]; trivial) (.inl rfl) (fun c u hc hu => (b.2 c hc).trans hu) he (setX_ok r))⟩
def tScX (P : Program) (w : World) (wi : TI) (g : TG) (tt : TT) (te : TE) (own : List Nat) : TE := fun σ H Q => wi σ H fun J H1 => ∀ D, H1 D = none → ∃ W : Nat → Nat → Hp → Prop, (∃ m, W 0 m (upd H1 D (SetX P w D []))) ∧ ∀ i m H2, W i m H2 →
  (J.stop i H2 ∧ Q (.ref D) H2) ∨ (J.go i H2 ∧ ∃ Nx : Hp → Prop, (∀ H3, Nx H3 → ∃ m', m' < m ∧ W (i + 1) m' H3) ∧ ∀ x H3, J.yld i H2 x H3 → g x (wipe σ own) H3 fun σ2 H4 => wipe σ2 own = wipe σ own ∧ tt σ2 H4 fun b H5 =>
    if b = true then te σ2 H5 fun y H6 => ∃ z L, y = .str z ∧ H6 D = some (SetX P w D L) ∧ L.length < 1000 ∧ Nx (upd H6 D (SetX P w D (if z ∈ L then L else L ++ [z]))) else Nx H5)
theorem pe_scX {elt tg iter : Expr} {ifs : List Expr} {scope : Scope} {own : List (PySem.Str × Nat)} {pos : Pos} {wi : TI} {g : TG} {tt : TT} {te : TE} (hc : X.calm = true) (hN : X.N.Nodup) (hi : PI X tg iter wi) (ok : BlkOk X.N X.env.scope scope own)
    (G : ∀ (s : Shared) (H : Hp) (C : Addr) (cl : List (PySem.Str × Addr)) (fp : List Addr), PG (X.blk s H scope (compEnvC scope cl C X.env) fp) tg g) (T1 : ∀ (s : Shared) (H : Hp) (C : Addr) (cl : List (PySem.Str × Addr)) (fp : List Addr), PTs (X.blk s H scope (compEnvC scope cl C X.env) fp) ifs tt)
    (V1 : ∀ (s : Shared) (H : Hp) (C : Addr) (cl : List (PySem.Str × Addr)) (fp : List Addr), PE (X.blk s H scope (compEnvC scope cl C X.env) fp) elt te) (fo : ∀ x, foldedSetIterable iter X.env x = pure x := by intro _; rfl) :
    PE X (.SetComp elt [⟨tg, iter, ifs, 0⟩] scope pos) (tScX X.prog X.w wi g tt te (own.map (·.2))) := by
  refine ⟨fun pins s σ H Q I h => ?_⟩
  rw [PpSet.eval_SetComp]
  have fr : ∀ y ∈ scope.names, y.2 = .free → ∃ c, X.env.cells.lookup y.1 = some c := fun y hy e => (ok.free y hy e).elim (fun k => I.ok.has _ (.inl k)) fun k => I.ok.has _ (.inr k)
  refine wpAny_comprehension_free rfl fo (closure_ok fr) ok.kind (fun y hy e => by rw [ok.uniq y hy, e]) (thn (hi.run pins s σ H _ I h) fun xv s1 h1 => thn h1 fun itv s2 h2 => ?_)
  obtain ⟨it, fp, tn, J, H2, e, I2, T, st2, f2, q⟩ := h2
  subst e
  refine PpSet.newSet_ok (newEnv_comp ?_)
  generalize eD : s2.heap.objs.size = D
  have nD : H2 D = none := I2.hok.fresh (Nat.le_of_eq eD)
  obtain ⟨W, ⟨m0, w0⟩, turn⟩ := q D nD
  generalize e3 : ({ s2 with heap := s2.heap.push (newS X.w) } : Shared) = s3
  have hp3 : s3.heap = s2.heap.push (newS X.w) := by rw [← e3]
  have at3 : s3.heap.get? D = some (newS X.w) := by rw [hp3, ← eD]; exact Heap.get?_push_size _ rfl
  have I3 : Inv X pins σ (upd H2 D (SetX X.prog X.w D [])) s3 := by
    have ok3 : ObjOk X.prog X.w (upd H2 D (SetX X.prog X.w D [])) s3.heap D (SetX X.prog X.w D []) := setX_ok (tx_fresh at3)
    rw [← e3] at ok3 ⊢
    exact I2.laid (t' := s2.toks) (fun b o e => Heap.get?_push_of_some _ e) (Nat.le_of_eq eD) ok3
  have f3 : ∀ b ∈ fp, FpOk X pins (upd H2 D (SetX X.prog X.w D [])) b ∧ b < s3.heap.objs.size := fun b hb => by
    obtain ⟨o, eo, _⟩ := T.obj _ _ st2 b hb
    have lt := Heap.lt_size eo
    refine ⟨⟨(upd_ne (by rw [← eD]; exact Nat.ne_of_lt lt)).trans (f2 b hb).1, (f2 b hb).2⟩, ?_⟩
    rw [hp3, Heap.size_push]
    exact Nat.lt_succ_of_lt lt
  have st3 : tn 0 s3.heap := T.keep _ _ _ st2 fun b _ o e => by rw [hp3]; exact Heap.get?_push_of_some _ e
  have I4 := block_start I3 ok hN f3
  obtain ⟨cl, ecl⟩ : ∃ cl, cl = cellsFrom (s3.heap.objs.size + 1) scope.names (cloFrom X.env.cells scope.names []) := ⟨_, rfl⟩
  have pg := G s3 (upd H2 D (SetX X.prog X.w D [])) s3.heap.objs.size cl fp
  have pt := T1 s3 (upd H2 D (SetX X.prog X.w D [])) s3.heap.objs.size cl fp
  have pv := V1 s3 (upd H2 D (SetX X.prog X.w D [])) s3.heap.objs.size cl fp
  show codeAny _ _ (.compStart (.SetComp elt [⟨tg, iter, ifs, 0⟩] scope pos) 0 (.ref it) (.ref D) (compEnvC scope (cellsFrom (s3.heap.objs.size + 1) scope.names (cloFrom X.env.cells scope.names [])) s3.heap.objs.size X.env)) (compPost (model X.prog X.w) X.A X.xe none (EP X pins σ Q) (.ref D) s3.heap.objs.size) { s3 with heap := pushCells (s3.heap.push { cls := .type "dict", data := .dict #[] }) scope.names }
  rw [← ecl] at I4 ⊢
  have nfp : ∀ b ∈ fp, (upd H2 D (SetX X.prog X.w D [])) b = none := fun b hb => (f3 b hb).1.1
  generalize ece : compEnvC scope cl s3.heap.objs.size X.env = ce at I4 pg pt pv ⊢
  have cL : ce.locals = s3.heap.objs.size := by subst ece; rfl
  generalize eH : upd H2 D (SetX X.prog X.w D []) = H3 at I3 I4 pg pt pv w0 nfp f3
  generalize e4 : ({ s3 with heap := pushCells (s3.heap.push { cls := .type "dict", data := .dict #[] }) scope.names } : Shared) = s4 at I4 ⊢
  have st4 : tn 0 s4.heap := T.keep _ _ _ st3 fun b _ o e => by rw [← e4]; exact pushCells_keeps _ _ _ _ (Heap.get?_push_of_some _ e)
  have stat : ∀ {σ' : St} {H' : Hp} {s' : Shared}, Inv (X.blk s3 H3 scope ce fp) [] σ' H' s' → (∀ b ∈ fp, H' b = none) → ∀ b ∈ fp, FpOk (X.blk s3 H3 scope ce fp) [] H' b := fun {σ' H' s'} I' n b hb =>
    ⟨n b hb, (I'.ok.exf b hb).1, I'.ok.exfs b hb, .inl hb, fun x c e => (I'.ok.exf b hb).2 x c e, fun p hp => absurd (show p ∈ ([] : List (Addr × Obj)) ++ [] from hp) (by simp)⟩
  have loop : codeAny (model X.prog X.w) X.A (.compLoop (.SetComp elt [⟨tg, iter, ifs, 0⟩] scope pos) 0 (.ref it) (.ref D) ce) (compPost (model X.prog X.w) X.A X.xe none (EP X pins σ Q) (.ref D) s3.heap.objs.size) s4 := by
    refine PpSet.compLoopS_any (fun n s' => ∃ i H', Inv (X.blk s3 H3 scope ce fp) [] (wipe σ (own.map (·.2))) H' s' ∧ tn i s'.heap ∧ (∀ b ∈ fp, H' b = none) ∧ W i n H') ?_ m0 ⟨0, H3, I4, st4, nfp, w0⟩
    rintro n s5 ⟨i, H5, I5, st5, n5, w5⟩
    rcases turn i n H5 w5 with ⟨stop, qq⟩ | ⟨go, Nx, hNx, step⟩
    · refine thnF (T.done (X.blk s3 H3 scope ce fp) rfl rfl rfl hc i [] s5 _ H5 (fun _ _ => False) I5 (stat I5 n5) st5 stop) fun r s6 ⟨er, I6⟩ => ?_
      subst er
      have I7 : Inv X pins σ H5 s6 := I3.call' (ch := fp) I6.os I6.base I6.hok I6.bare fun b hb => ⟨(f3 b hb).1.2.2.2.1, (f3 b hb).1.2.1, (f3 b hb).1.2.2.2.2.1, (f3 b hb).1.2.2.2.2.2⟩
      have nC : H5 s3.heap.objs.size = none := cL ▸ I6.free
      obtain ⟨m, hn, _⟩ := I6.loc
      have hn : s6.heap.Ns ce.locals m := hn
      rw [cL] at hn
      refine ⟨m, hn, fun h'' sb => ?_⟩
      obtain ⟨k0, k1, k2, k3, k4, k5⟩ := I3.fpOk (Nat.le_refl _) nC
      exact ⟨.ref D, H5, I7.turned (t' := s6.toks) (fun b o hb e => (sb.2 b hb).trans e) k0 k1 k3 k4 k5, rfl, qq⟩
    · refine thnF (T.item (X.blk s3 H3 scope ce fp) rfl rfl rfl hc i [] s5 _ H5 (fun _ _ => False) I5 (stat I5 n5) st5 go) fun r s6 ⟨u, er, h6⟩ => ?_
      subst er
      refine thnF h6 fun _ s7 ⟨x, H7, I7, r7, y7, st7, n7⟩ => ?_
      refine thnF (pg.run _ s7 _ H7 x u _ (I7.pinned (stat I7 n7) (T.obj _ _ st7)) r7 (step x H7 y7)) fun _ s8 ⟨σ8, H8, I8, w8, q8⟩ => ?_
      refine thnF (pt.run _ s8 σ8 H8 _ I8 q8) fun b s9 ⟨H9, I9, q9⟩ => ?_
      have fin : ∀ {s' : Shared} {H' : Hp}, Inv (X.blk s3 H3 scope ce fp) ([] ++ pinsAt fp s7.heap) σ8 H' s' → Nx H' → ∃ m, m < n ∧ ∃ i H', Inv (X.blk s3 H3 scope ce fp) [] (wipe σ (own.map (·.2))) H' s' ∧ tn i s'.heap ∧ (∀ b ∈ fp, H' b = none) ∧ W i m H' := fun {s' H'} I' nx => by
        obtain ⟨m', lt, w'⟩ := hNx H' nx
        have pin : ∀ b ∈ fp, ∀ o, s7.heap.get? b = some o → s'.heap.get? b = some o ∧ H' b = none := fun b hb o e =>
          have z := I'.pin (b, o) (List.mem_append_right _ (List.mem_append_right _ (mem_pinsAt hb e)))
          ⟨z.1, z.2.1⟩
        refine ⟨m', lt, i + 1, H', (I'.unpinned (pins := [])).weak (by rw [← w8, wipe_length]) (fun j v e => ?_), T.keep _ _ _ st7 fun b hb o e => (pin b hb o e).1, fun b hb => ?_, w'⟩
        · rw [← w8] at e
          exact (wipe_some e).1
        · obtain ⟨o, e, _⟩ := T.obj _ _ st7 b hb
          exact (pin b hb o e).2
      cases b with
      | false => exact fin I9 q9
      | true =>
        refine thnF (pv.run _ s9 σ8 H9 _ I9 q9) fun z s10 ⟨yv, H10, I10, r10, zz, L0, ey, gD, few, nx⟩ => ?_
        subst ey
        obtain ⟨tk, rfl⟩ := r10
        exact put_text (X := X.blk s3 H3 scope ce fp) I10 gD few fun s11 I11 => fin I11 nx
  exact PpSet.codeAny_compStart_set loop (T.self X.A 0 _ _ _ st4 loop)
end
end L2.K03
set_option Elab.async false
set_option linter.all false
set_option maxRecDepth 100000
set_option maxHeartbeats 4000000
namespace L2.K03
open PySem PySem.Spec PyProof.Rows L2.EV L2
/-! ### all_jobs -/
/-- a set comprehension over a list that the block leaves as it is -/
theorem sc_listX {P : Program} {w : World} {K : PySem.W.Frag} {a : Addr} {xs : List V} {g : TG} {tt : TT} {te : TE} {own : List Nat} {σ : St} {H1 : Hp} {D : Addr} {Qd : Hp → Prop} (Pv : Nat → Hp → Prop) (h0 : Pv 0 (upd H1 D (SetX P w D []))) (hl : ∀ i H, i ≤ xs.length → Pv i H → SqL K H a xs)
    (hs : ∀ i x H, xs[i]? = some x → Pv i H → g x (wipe σ own) H fun σ2 H2 => wipe σ2 own = wipe σ own ∧ tt σ2 H2 fun b H3 => if b = true then te σ2 H3 fun y H4 => ∃ z L, y = .str z ∧ H4 D = some (SetX P w D L) ∧ L.length < 1000 ∧ Pv (i + 1) (upd H4 D (SetX P w D (if z ∈ L then L else L ++ [z]))) else Pv (i + 1) H3)
    (hd : ∀ H, Pv xs.length H → Qd H) : ∃ W : Nat → Nat → Hp → Prop, (∃ m, W 0 m (upd H1 D (SetX P w D []))) ∧ ∀ i m H2, W i m H2 →
      ((Itl K a).stop i H2 ∧ Qd H2) ∨ ((Itl K a).go i H2 ∧ ∃ Nx : Hp → Prop, (∀ H3, Nx H3 → ∃ m', m' < m ∧ W (i + 1) m' H3) ∧ ∀ x H3, (Itl K a).yld i H2 x H3 → g x (wipe σ own) H3 fun σ2 H4 => wipe σ2 own = wipe σ own ∧ tt σ2 H4 fun b H5 =>
        if b = true then te σ2 H5 fun y H6 => ∃ z L, y = .str z ∧ H6 D = some (SetX P w D L) ∧ L.length < 1000 ∧ Nx (upd H6 D (SetX P w D (if z ∈ L then L else L ++ [z]))) else Nx H5) := by
  refine ⟨fun i m H2 => m = xs.length - i ∧ i ≤ xs.length ∧ Pv i H2, ⟨_, rfl, Nat.zero_le _, h0⟩, fun i m H2 ⟨em, hi, p⟩ => ?_⟩
  have q := hl i H2 hi p
  rcases Nat.lt_or_ge i xs.length with lt | ge
  · refine .inr ⟨⟨xs, xs[i], q, List.getElem?_eq_getElem lt⟩, Pv (i + 1), fun H3 p3 => ⟨_, by omega, rfl, lt, p3⟩, fun x H3 ⟨e, y⟩ => ?_⟩
    rw [e]
    exact hs i x H2 (y xs q) p
  · have e : i = xs.length := Nat.le_antisymm hi ge
    rw [e] at p
    exact .inl ⟨⟨xs, q, by rw [e]; exact Nat.le_refl _⟩, hd H2 p⟩
/-- a text put into a list that has each once -/
theorem put_once (z : Str) (M : List Str) (d : M.Nodup) : (if z ∈ M then M else M ++ [z]).Nodup ∧ (∀ y, y ∈ (if z ∈ M then M else M ++ [z]) ↔ y ∈ M ∨ y = z) ∧ (if z ∈ M then M else M ++ [z]).length ≤ M.length + 1 := by
  by_cases h : z ∈ M
  · rw [if_pos h]
    exact ⟨d, fun y => ⟨.inl, fun q => q.elim id fun e => e ▸ h⟩, Nat.le_succ _⟩
  · rw [if_neg h]
    refine ⟨List.nodup_append.mpr ⟨d, by simp, fun y hy w hw e => h (by rw [← List.mem_singleton.mp hw, ← e]; exact hy)⟩, fun y => by rw [List.mem_append, List.mem_singleton], by rw [List.length_append]; exact Nat.le_refl _⟩
abbrev sAJ : Stmt := top 22
abbrev nAJ : List Str := ["manual", "manner"]
theorem scAJ : FnScope nAJ ["manual"] (defScope sAJ) := ⟨rfl, rfl, rfl, by decide +kernel, rfl, by decide +kernel, by decide +kernel⟩
def jobsL (ms : List Mn) : List Str := ms.map fun m => m.j
def spAJ (K : PySem.W.Frag) : Sp := fun vs H Q _ => ∃ (x : Addr) (ms : List Mn) (bs es : List Str), vs = [.ref x] ∧ ManuAt K H x ms bs es ∧ ms.length ≤ 100 ∧
  ∀ p H', Same H H' → H p = none → H' p = some (.lst ((setW (jobsL ms)).map V.str)) → Q (.ref p) H'
section
variable {P : Program} {w : World} {K : PySem.W.Frag} {mg : Str → Option Value} {base : Heap} {f : Addr} {fd : FuncData}
theorem ok_aj (F : FnP K "all_jobs" sAJ f fd) (C : Mc K) (GM : GotM P w K mg base 1 "manners" ["self"] (spMm K)) (mSo : mg "sorted" = none) : FnOk P w K mg base CX0 2 f fd ["manual"] (spAJ K) := by
  refine F.ok scAJ (fun vs H Q E h => ?_) (fun cdv A outer s H vs Q E hr h => ?_)
  · obtain ⟨x, ms, bs, es, rfl, _⟩ := h
    rfl
  · obtain ⟨x, ms, bs, es, rfl, hm, l1, q⟩ := h
    have hu := hr.units
    refine ⟨_, PSs.nox (pss_one (ps_ret (pe_callB (cr_sortedX rfl hu) (by rfl) mSo (by decide +kernel) (pa_cons
      (pe_scX (own := [("manner", 1)]) (g := gName 1) (tt := tYes) (te := tOp (rIxT K) (tVar 1) (tC (.int 1))) (by rfl) scAJ.nd (pi_list (pe_gotM0 GM C hr (pv 0))) (blkOk_by (own := [("manner", 1)]) (N := nAJ) (sc := defScope sAJ) (by decide +kernel))
        (fun _ _ _ _ _ => pg_name (i := 1) scAJ.nd rfl (Or.inl rfl)) (fun _ _ _ _ _ => pts_nil) (fun _ _ _ _ _ => pe_ix ix_tup (pv 1) pe_int (fun _ _ => rfl))) pa_nil)))), ?_⟩
    obtain ⟨dx, fs, hx, n1, n2, n3⟩ := hm.plain
    refine ⟨_, rfl, x, dx, fs, rfl, hx, n1, x, ms, bs, es, rfl, hm, fun pm ys hp hy => ?_⟩
    obtain ⟨H1, e1, s1, g1⟩ : ∃ H1, H1 = upd H pm (.lst ys) ∧ Same H H1 ∧ H1 pm = some (.lst ys) := ⟨_, rfl, same_upd hp, upd_same⟩
    rw [← e1]
    clear e1
    have hy1 := hy.same s1
    refine ⟨pm, rfl, ⟨_, SqL.of g1⟩, fun S hS => ?_⟩
    have nS : pm ≠ S := fun z => by rw [← z, g1] at hS; cases hS
    refine sc_listX (P := P) (w := w) (K := K) (a := pm) (xs := ys) (fun i H' => ∃ L', (∀ c o, c ≠ S → H1 c = some o → H' c = some o) ∧ H' S = some (SetX P w S L') ∧ L'.Nodup ∧ (∀ z, z ∈ L' ↔ z ∈ jobsL (ms.take i)) ∧ L'.length ≤ i)
      ⟨[], fun c o n e => (upd_ne n).trans e, upd_same, List.nodup_nil, fun z => by rw [List.take_zero]; rfl, Nat.le_refl _⟩ (fun i H' _ ⟨_, k, _⟩ => SqL.of (k _ _ nS g1)) ?_ ?_
    · rintro i v H' hv ⟨L', k, gS, dL', mL', lL'⟩
      have li : i < ms.length := by
        have := (List.getElem?_eq_some_iff.mp hv).1
        rw [hy.1] at this
        exact this
      obtain ⟨m, em⟩ : ∃ m, ms[i]? = some m := ⟨_, List.getElem?_eq_getElem li⟩
      obtain ⟨a, t, rfl, ga, _⟩ := hy1.2 i v m hv em
      have na : a ≠ S := fun z => by
        rw [z, hS] at ga
        cases ga
      have et : ms.take (i + 1) = ms.take i ++ [m] := by rw [List.take_succ, em]; rfl
      obtain ⟨d1, m1, z1⟩ := put_once m.j L' dL'
      refine ⟨rfl, ?_⟩
      dsimp only [tYes]
      rw [if_pos rfl]
      refine ⟨_, rfl, a, _, _, .str m.j, rfl, rfl, SqT.of (k _ _ na ga), atI_nat (j := 1) rfl, m.j, L', rfl, gS, by omega, _, fun c o n e => (upd_ne n).trans (k c o n e), upd_same, d1, fun z => ?_, by omega⟩
      rw [m1, mL', et]
      unfold jobsL
      simp
    · rintro H6 ⟨L', k, gS, dL', mL', lL'⟩
      have lm : ys.length = ms.length := hy.1
      refine ⟨S, L', rfl, gS, by omega, fun p hp' => ?_⟩
      have sF : Same H H6 := fun c o e => k c o (fun z => by
        have := s1 _ _ e
        rw [z, hS] at this
        cases this) (s1 _ _ e)
      have fr : H p = none := by
        cases e : H p with
        | none => rfl
        | some o =>
          rw [sF _ _ e] at hp'
          cases hp'
      rw [lm, List.take_length] at mL'
      rw [setW_eq dL' mL']
      exact q p _ (sF.trans (same_upd hp')) fr upd_same
end
end L2.K03
set_option Elab.async false
set_option linter.all false
set_option maxRecDepth 100000
set_option maxHeartbeats 4000000
namespace L2.K03
open PySem PySem.Spec PyProof.Rows L2.EV L2
/-! ### the checks -/
/-- how isinstance asks a manual -/
structure My (K : PySem.W.Frag) : Prop extends Mc K where
  ha : PySem.W.findIn K (.ref (aC K)) "__class__" = some (some (.builtin "object.__class__"))
  hn : PySem.W.specialIn K (.builtin "object.__class__") "__get__" = some (some (.builtin "getset_descriptor.__get__"))
  ht : PySem.W.takesIn K (.builtin "object.__class__") = some true
  hm : PySem.W.mroIn K (aC K) (.type "object") = some true
theorem My.ty {K : PySem.W.Frag} (M : My K) {H : Hp} {x : Addr} {ms : List Mn} {bs es : List Str} (h : ManuAt K H x ms bs es) : TyX K H (.ref x) (.ref (aC K)) := by
  obtain ⟨dx, fs, hx, _⟩ := h.plain
  exact .base (.ins hx M.c M.ha M.hn M.ht M.hm)
theorem kit_self {K : PySem.W.Frag} {t : Value} : PySem.W.kitOne K t t = some true := by
  unfold PySem.W.kitOne
  rw [if_pos (by cases t <;> simp)]
section
variable {X : Cx} {k j : Nat} {x : Str} {ps : List Str} {sp : Sp} {p pos : Pos} {e : Expr} {es : List Expr} {t : TA} {W : WX}
theorem pe_gotX (g : GotX X.prog X.w X.K X.mg X.base k x ps sp) (tk : Takes X W) (hr : Room j X.A) (ha : PA X (e :: es) t) (hg : Gl X x := by rfl) (hk : k ≤ j := by decide) (hdb : (x == ("__debug__" : Str)) = false := by decide)
    (he : starEach (e :: es) X.env = (false, eval e X.env) :: starEach es X.env := by rfl) (hpl : (backTo pos (starEach es X.env)).any (·.1) = false := by rfl) : PE X (.Call (.Name x p) (e :: es) [] pos) (tCallS sp (WE W) t) := by
  obtain ⟨f, fd, G, b, kp, m⟩ := g.ex
  exact pe_callS G (hr.mono hk) hg m kp b (fun σ => passAt tk σ) ha hdb he hpl
end
abbrev sCW : Stmt := top 24
abbrev sCR : Stmt := top 25
abbrev sCM : Stmt := top 28
abbrev sRO : Stmt := top 29
abbrev sJO : Stmt := top 30
theorem scCW : FnScope ["value"] ["value"] (defScope sCW) := ⟨rfl, rfl, rfl, by decide +kernel, rfl, by decide +kernel, by decide +kernel⟩
theorem scCR : FnScope ["manual", "value"] ["manual", "value"] (defScope sCR) := ⟨rfl, rfl, rfl, by decide +kernel, rfl, by decide +kernel, by decide +kernel⟩
theorem scCM : FnScope ["value"] ["value"] (defScope sCM) := ⟨rfl, rfl, rfl, by decide +kernel, rfl, by decide +kernel, by decide +kernel⟩
theorem scRO : FnScope ["manual"] ["manual"] (defScope sRO) := ⟨rfl, rfl, rfl, by decide +kernel, rfl, by decide +kernel, by decide +kernel⟩
theorem scJO : FnScope ["manual"] ["manual"] (defScope sJO) := ⟨rfl, rfl, rfl, by decide +kernel, rfl, by decide +kernel, by decide +kernel⟩
def spCW (K : PySem.W.Frag) : Sp := fun vs H Q E => ∃ v, vs = [v] ∧ ((WdF K H v true ∧ Q .non H) ∨ (WdF K H v false ∧ Out H E (aWd K) v))
/-- a manual of few rooms -/
structure Few (ms : List Mn) (bs es : List Str) : Prop where
  m : ms.length ≤ 100
  b : bs.length ≤ 100
  e : es.length ≤ 100
def spCR (K : PySem.W.Frag) : Sp := fun vs H Q E => ∃ (x : Addr) (v : V) (ms : List Mn) (bs es : List Str), vs = [.ref x, v] ∧ ManuAt K H x ms bs es ∧ Few ms bs es ∧ ((WdF K H v false ∧ Out H E (aRo K) v) ∨
  ∃ z : Str, v = .str z ∧ z.length ≤ sizeLine ∧ wordB z = true ∧ ((z ∈ roomsL ms bs es ∧ ∀ H', Same H H' → Q .non H') ∨ (z ∉ roomsL ms bs es ∧ Out H E (aRo K) v)))
/-- no manual: the error; or a manual -/
def NoMan (K : PySem.W.Frag) (H : Hp) (v : V) : Prop := ∃ t, TyX K H v t ∧ PySem.W.kitOne K t (.ref (aC K)) = some false
def spCM (K : PySem.W.Frag) : Sp := fun vs H Q E => ∃ v, vs = [v] ∧ ((NoMan K H v ∧ Out H E (aMu K) v) ∨ ∃ x ms bs es, v = .ref x ∧ ManuAt K H x ms bs es ∧ Q .non H)
def spRO (K : PySem.W.Frag) : Sp := fun vs H Q E => ∃ v, vs = [v] ∧ ((NoMan K H v ∧ Out H E (aMu K) v) ∨ ∃ x ms bs es, v = .ref x ∧ ManuAt K H x ms bs es ∧ Few ms bs es ∧ ∀ p H', Same H H' → H p = none → H' p = some (.lst ((setW (roomsL ms bs es)).map V.str)) → Q (.ref p) H')
def spJO (K : PySem.W.Frag) : Sp := fun vs H Q E => ∃ v, vs = [v] ∧ ((NoMan K H v ∧ Out H E (aMu K) v) ∨ ∃ x ms bs es, v = .ref x ∧ ManuAt K H x ms bs es ∧ Few ms bs es ∧ ∀ p H', Same H H' → H p = none → H' p = some (.lst ((setW (jobsL ms)).map V.str)) → Q (.ref p) H')
theorem setW_mem {l : List Str} {x : Str} : x ∈ setW l ↔ x ∈ l := (srtW_perm _).mem_iff.trans once_mem
section
variable {P : Program} {w : World} {K : PySem.W.Frag} {mg : Str → Option Value} {base : Heap} {f : Addr} {fd : FuncData}
theorem ok_cw (F : FnP K "check_word" sCW f fd) (T : Tx P w K mg base) (GW : Got P w K mg base 1 "has_word_form" ["value"] (spWF K)) : FnOk P w K mg base (L2.CX P w) 3 f fd ["value"] (spCW K) := by
  refine F.ok scCW (fun vs H Q E h => ?_) (fun cdv A outer s H vs Q E hr h => ?_)
  · obtain ⟨v, rfl, _⟩ := h
    rfl
  · obtain ⟨v, rfl, h⟩ := h
    refine ⟨_, pss_one (ps_if (pt_not (pt_val (pe_got GW hr (pa_cons (pv 0) pa_nil)))) (pss_one (ps_rz T.wd rfl hr (takes_of rfl rfl rfl rfl) (pv 0))) pss_nil), ?_⟩
    rcases h with ⟨h, q⟩ | ⟨h, q⟩
    · refine ⟨_, rfl, ?_⟩
      dsimp only [tNil]
      exact h.sp ⟨true, rfl, iteF q⟩
    · refine ⟨_, rfl, ?_⟩
      dsimp only [tNil]
      exact h.sp ⟨false, rfl, iteT ⟨_, rfl, fun d hd => q d _ (same_upd hd) upd_same⟩⟩
theorem ok_cm (F : FnP K "check_manual" sCM f fd) (T : Tx P w K mg base) (M : My K) (gC : mg "Manual" = some (.ref (aC K))) (mIs : mg "isinstance" = none) : FnOk P w K mg base (L2.CX P w) 3 f fd ["value"] (spCM K) := by
  refine F.ok scCM (fun vs H Q E h => ?_) (fun cdv A outer s H vs Q E hr h => ?_)
  · obtain ⟨v, rfl, _⟩ := h
    rfl
  · obtain ⟨v, rfl, h⟩ := h
    refine ⟨_, pss_one (ps_if (pt_not (pt_val (pe_callB call_isi (by rfl) mIs (by decide +kernel) (pa_cons (pv 0) (pa_cons (pe_glob (v := .ref (aC K)) (by rfl) gC rfl (by decide)) pa_nil))))) (pss_one (ps_rz T.mu rfl hr (takes_of rfl rfl rfl rfl) (pv 0))) pss_nil), ?_⟩
    rcases h with ⟨⟨t, ty, kt⟩, q⟩ | ⟨x, ms, bs, es, rfl, hm, q⟩
    · exact ⟨_, rfl, v, .ref (aC K), t, _, false, rfl, .own _, ty, kt, false, rfl, iteT ⟨_, rfl, fun d hd => q d _ (same_upd hd) upd_same⟩⟩
    · exact ⟨_, rfl, .ref x, .ref (aC K), _, _, true, rfl, .own _, M.ty hm, kit_self, true, rfl, iteF q⟩
theorem ok_ro (F : FnP K "rooms_of" sRO f fd) (GM : GotX P w K mg base 3 "check_manual" ["value"] (spCM K)) (GA : Got P w K mg base 2 "all_rooms" ["manual"] (spAR K)) : FnOk P w K mg base (L2.CX P w) 4 f fd ["manual"] (spRO K) := by
  refine F.ok scRO (fun vs H Q E h => ?_) (fun cdv A outer s H vs Q E hr h => ?_)
  · obtain ⟨v, rfl, _⟩ := h
    rfl
  · obtain ⟨v, rfl, h⟩ := h
    refine ⟨_, pss_cons (ps_expr (pe_gotX GM (takes_of rfl rfl rfl rfl) hr (pa_cons (pv 0) pa_nil))) (pss_one (ps_ret (pe_got GA hr (pa_cons (pv 0) pa_nil)))), ?_⟩
    rcases h with ⟨nm, q⟩ | ⟨x, ms, bs, es, rfl, hm, fw, q⟩
    · exact ⟨_, rfl, v, rfl, .inl ⟨nm, fun d H' s' e => q d H' s' e⟩⟩
    · exact ⟨_, rfl, .ref x, rfl, .inr ⟨x, ms, bs, es, rfl, hm, _, rfl, x, ms, bs, es, rfl, hm, fw.m, fw.b, fw.e, q⟩⟩
theorem ok_jo (F : FnP K "jobs_of" sJO f fd) (GM : GotX P w K mg base 3 "check_manual" ["value"] (spCM K)) (GA : Got P w K mg base 2 "all_jobs" ["manual"] (spAJ K)) : FnOk P w K mg base (L2.CX P w) 4 f fd ["manual"] (spJO K) := by
  refine F.ok scJO (fun vs H Q E h => ?_) (fun cdv A outer s H vs Q E hr h => ?_)
  · obtain ⟨v, rfl, _⟩ := h
    rfl
  · obtain ⟨v, rfl, h⟩ := h
    refine ⟨_, pss_cons (ps_expr (pe_gotX GM (takes_of rfl rfl rfl rfl) hr (pa_cons (pv 0) pa_nil))) (pss_one (ps_ret (pe_got GA hr (pa_cons (pv 0) pa_nil)))), ?_⟩
    rcases h with ⟨nm, q⟩ | ⟨x, ms, bs, es, rfl, hm, fw, q⟩
    · exact ⟨_, rfl, v, rfl, .inl ⟨nm, fun d H' s' e => q d H' s' e⟩⟩
    · exact ⟨_, rfl, .ref x, rfl, .inr ⟨x, ms, bs, es, rfl, hm, _, rfl, x, ms, bs, es, rfl, hm, fw.m, q⟩⟩
theorem ok_cr (F : FnP K "check_room" sCR f fd) (T : Tx P w K mg base) (GW : Got P w K mg base 1 "has_word_form" ["value"] (spWF K)) (GA : Got P w K mg base 2 "all_rooms" ["manual"] (spAR K)) : FnOk P w K mg base (L2.CX P w) 3 f fd ["manual", "value"] (spCR K) := by
  refine F.ok scCR (fun vs H Q E h => ?_) (fun cdv A outer s H vs Q E hr h => ?_)
  · obtain ⟨x, v, ms, bs, es, rfl, _⟩ := h
    rfl
  · obtain ⟨x, v, ms, bs, es, rfl, hm, fw, h⟩ := h
    refine ⟨_, pss_one (ps_if (PW.pt (pw_or (pt_not (pt_val (pe_got GW hr (pa_cons (pv 1) pa_nil)))) (pw_or1 (pt_cmpR op_notIn_seq (pv 1) (pe_got GA hr (pa_cons (pv 0) pa_nil)) (by rfl))))) (pss_one (ps_rz T.ro rfl hr (takes_of rfl rfl rfl rfl) (pv 1))) pss_nil), ?_⟩
    rcases h with ⟨h, q⟩ | ⟨z, rfl, lz, wz, h⟩
    · refine ⟨_, rfl, ?_⟩
      dsimp only [tNil]
      exact h.sp ⟨false, rfl, iteT (iteT ⟨_, rfl, fun d hd => q d _ (same_upd hd) upd_same⟩)⟩
    · refine ⟨_, rfl, ?_⟩
      dsimp only [tNil]
      have wd : WdF K H (.str z) true := by rw [← wz]; exact .str lz
      refine wd.sp ⟨true, rfl, iteF ⟨_, rfl, _, rfl, x, ms, bs, es, rfl, hm, fw.m, fw.b, fw.e, fun p H' s' hp g => ⟨p, _, rfl, .inl (SqL.of g), rfl, flat_strs _, _, rfl, ?_⟩⟩⟩
      have ev : (!inV (.str z) ((setW (roomsL ms bs es)).map V.str)) = !decide (z ∈ roomsL ms bs es) := by
        rw [inV_str]
        congr 1
        rw [Bool.eq_iff_iff, List.any_eq_true, decide_eq_true_iff]
        constructor
        · rintro ⟨y, hy, e⟩
          rw [← eq_of_beq e]
          exact setW_mem.mp hy
        · exact fun hz => ⟨z, setW_mem.mpr hz, beq_self_eq_true z⟩
      rcases h with ⟨hz, q⟩ | ⟨hz, q⟩
      · rw [if_pos rfl, ev, decide_eq_true hz]
        exact iteF (q _ s')
      · rw [if_pos rfl, ev, decide_eq_false hz]
        exact iteT ⟨_, rfl, fun d hd => q d _ (s'.trans (same_upd hd)) upd_same⟩
end
end L2.K03
set_option Elab.async false
set_option linter.all false
set_option maxRecDepth 100000
set_option maxHeartbeats 4000000
namespace L2.K03
open PySem PySem.Spec PyProof.Rows L2.EV L2
/-! ### manners_at -/
abbrev sMA : Stmt := top 31
abbrev pMA : List Str := ["manual", "room", "job"]
abbrev nMA : List Str := ["manual", "room", "job", "manner"]
theorem scMA : FnScope nMA pMA (defScope sMA) := ⟨rfl, rfl, rfl, by decide +kernel, rfl, by decide +kernel, by decide +kernel⟩
def atL (ms : List Mn) (r j : Str) : List Mn := ms.filter fun m => m.r == r && m.j == j
def spMA (K : PySem.W.Frag) : Sp := fun vs H Q E => ∃ v r j, vs = [v, r, j] ∧ ((NoMan K H v ∧ Out H E (aMu K) v) ∨ ∃ x ms bs es, v = .ref x ∧ ManuAt K H x ms bs es ∧ Few ms bs es ∧
  ((WdF K H r false ∧ Out H E (aRo K) r) ∨ ∃ z, r = .str z ∧ z.length ≤ sizeLine ∧ wordB z = true ∧ ((z ∉ roomsL ms bs es ∧ Out H E (aRo K) r) ∨ (z ∈ roomsL ms bs es ∧ ((WdF K H j false ∧ Out H E (aWd K) j) ∨ ∃ y, j = .str y ∧ Word z ∧ Word y ∧ (∀ m ∈ ms, m.Ok) ∧
    ∀ p ys H', Same H H' → H p = none → H' p = some (.lst ys) → Mans H' ys (atL ms z y) → Q (.ref p) H')))))
theorem cut2 (x y z e : V) : cutV [x, y, z, e] none (some 2) = [x, y] := rfl
theorem shaped_pair {r j : Str} (hr : Word r) (hj : Word j) : SeqAt.shaped (.tuple [.str r, .str j]) = true := by
  unfold SeqAt.shaped
  simp [PyData.canLay0, PyData.canLayAll0, PyData.depth, PyData.depthAll, hr.ok, hj.ok]
theorem eqv_pair (r j r' j' : Str) : PyData.eqv (.tuple [.str r, .str j]) (.tuple [.str r', .str j']) = (r == r' && j == j') := by
  simp [PyData.eqv, PyData.eqvAll]
section
variable {P : Program} {w : World} {K : PySem.W.Frag} {mg : Str → Option Value} {base : Heap} {f : Addr} {fd : FuncData}
theorem ok_ma (F : FnP K "manners_at" sMA f fd) (C : Mc K) (GM : GotX P w K mg base 3 "check_manual" ["value"] (spCM K)) (GR : GotX P w K mg base 3 "check_room" ["manual", "value"] (spCR K)) (GW : GotX P w K mg base 3 "check_word" ["value"] (spCW K)) (GA : GotM P w K mg base 1 "manners" ["self"] (spMm K)) :
    FnOk P w K mg base (L2.CX P w) 4 f fd pMA (spMA K) := by
  refine F.ok scMA (fun vs H Q E h => ?_) (fun cdv A outer s H vs Q E hr h => ?_)
  · obtain ⟨v, r, j, rfl, _⟩ := h
    rfl
  · obtain ⟨v, r, j, rfl, h⟩ := h
    have hu := hr.units
    refine ⟨_, pss_cons (ps_expr (pe_gotX GM (takes_of rfl rfl rfl rfl) hr (pa_cons (pv 0) pa_nil))) (pss_cons (ps_expr (pe_gotX GR (takes_of rfl rfl rfl rfl) hr (pa_cons (pv 0) (pa_cons (pv 1) pa_nil))))
      (pss_cons (ps_expr (pe_gotX GW (takes_of rfl rfl rfl rfl) hr (pa_cons (pv 2) pa_nil)))
      (pss_one (ps_ret (pe_lc (own := [("manner", 3)]) (g := gName 3) (tt := tTest (tOp (rEqD K) (tSl (rSlT K) (tVar 3) tNoPart (tPart (tC (.int 2)))) (tTup (tCons (tVar 1) (tCons (tVar 2) tNil))))) (te := tVar 3) (by rfl) scMA.nd (pi_list (pe_gotM0 GA C hr (pv 0))) (blkOk_by (own := [("manner", 3)]) (N := nMA) (sc := defScope sMA) (by decide +kernel))
        (fun _ _ _ _ _ => pg_name (i := 3) scMA.nd rfl (Or.inl rfl)) (fun _ _ _ _ _ => pts_one (pt_cmpR (op_eqD hu) (pe_slice sl_tup (pv 3) po_none (po_some pe_int)) (pe_tup (pa_cons (pv 1) (pa_cons (pv 2) pa_nil))) (nomark _))) (fun _ _ _ _ _ => pv 3)))))), ?_⟩
    rcases h with ⟨nm, q⟩ | ⟨x, ms, bs, es, rfl, hm, fw, h⟩
    · exact ⟨_, rfl, v, rfl, .inl ⟨nm, fun d H' s' e => q d H' s' e⟩⟩
    refine ⟨_, rfl, .ref x, rfl, .inr ⟨x, ms, bs, es, rfl, hm, ?_⟩⟩
    rcases h with ⟨h, q⟩ | ⟨z, rfl, lz, wz, h⟩
    · exact ⟨_, rfl, _, rfl, x, r, ms, bs, es, rfl, hm, fw, .inl ⟨h, fun d H' s' e => q d H' s' e⟩⟩
    refine ⟨_, rfl, _, rfl, x, .str z, ms, bs, es, rfl, hm, fw, .inr ⟨z, rfl, lz, wz, ?_⟩⟩
    rcases h with ⟨hz, q⟩ | ⟨hz, h⟩
    · exact .inr ⟨hz, fun d H' s' e => q d H' s' e⟩
    refine .inl ⟨hz, fun H1 s1 => ?_⟩
    rcases h with ⟨h, q⟩ | ⟨y, rfl, Wz, Wy, oks, q⟩
    · exact ⟨_, rfl, j, rfl, .inr ⟨h.same s1, fun d H' s' e => q d H' (s1.trans s') e⟩⟩
    have wy : WdF K H1 (.str y) true := by
      rw [← Wy.form]
      exact .str (by have := Wy.1.2; rw [sizeLine_eq]; omega)
    refine ⟨_, rfl, .str y, rfl, .inl ⟨wy, ?_⟩⟩
    obtain ⟨dx, fs, hx, n1, n2, n3⟩ := hm.plain
    refine ⟨_, rfl, x, dx, fs, rfl, s1 _ _ hx, n1, x, ms, bs, es, rfl, hm.same s1, fun pm ys hp hy => ?_⟩
    obtain ⟨H2, e2, s2, g2⟩ : ∃ H2, H2 = upd H1 pm (.lst ys) ∧ Same H1 H2 ∧ H2 pm = some (.lst ys) := ⟨_, rfl, same_upd hp, upd_same⟩
    rw [← e2]
    clear e2
    have hy2 := hy.same s2
    refine ⟨pm, rfl, ⟨_, SqL.of g2⟩, fun D hD => ?_⟩
    refine lc_list (K := K) (a := pm) (xs := ys) (fun i H' => ∃ zs, Same H2 H' ∧ H' D = some (.lst zs) ∧ Mans H' zs (atL (ms.take i) z y) ∧ zs.length ≤ i) ⟨[], same_upd hD, upd_same, by rw [List.take_zero]; exact Mans.nil, Nat.le_refl _⟩ (fun i H' _ ⟨_, sA, _⟩ => SqL.of (sA _ _ g2)) ?_ ?_
    · rintro i v H' hv ⟨zs, sA, gD, hz', lz'⟩
      have li : i < ms.length := by
        have := (List.getElem?_eq_some_iff.mp hv).1
        rw [hy.1] at this
        exact this
      obtain ⟨m, em⟩ : ∃ m, ms[i]? = some m := ⟨_, List.getElem?_eq_getElem li⟩
      have hv2 := (hy2.2 i v m hv em).same sA
      obtain ⟨a, t, rfl, ga, gt⟩ := hv2
      have om := oks m (List.mem_of_getElem? em)
      have et : ms.take (i + 1) = ms.take i ++ [m] := by rw [List.take_succ, em]; rfl
      refine ⟨rfl, _, rfl, ?_⟩
      refine ⟨2, rfl, ?_⟩
      refine ⟨a, _, rfl, SqT.of ga, (by show ¬ (HT.sIx 4 0 none = 0 ∧ HT.sIx 4 4 (some 2) = 4); decide), fun p1 h1 => ?_⟩
      rw [cut2]
      obtain ⟨H3, e3, s3, g3⟩ : ∃ H3, H3 = upd H' p1 (.tup [.str m.r, .str m.j]) ∧ Same H' H3 ∧ H3 p1 = some (.tup [.str m.r, .str m.j]) := ⟨_, rfl, same_upd h1, upd_same⟩
      rw [← e3]
      clear e3
      refine ⟨_, rfl, _, rfl, (by show 2 ≤ sizeLine; decide), fun p2 h2 => ?_⟩
      obtain ⟨H4, e4, s4, g4⟩ : ∃ H4, H4 = upd H3 p2 (.tup [.str z, .str y]) ∧ Same H3 H4 ∧ H4 p2 = some (.tup [.str z, .str y]) := ⟨_, rfl, same_upd h2, upd_same⟩
      rw [← e4]
      clear e4
      refine ⟨_, _, .tup (SqT.of (s4 _ _ g3)) (.cons (.str _) (.cons (.str _) .nil)), .tup (SqT.of g4) (.cons (.str _) (.cons (.str _) .nil)), shaped_pair om.r om.j, shaped_pair Wz Wy, _, rfl, ?_⟩
      rw [eqv_pair]
      have sF := sA.trans (s3.trans s4)
      have gD4 := s4 _ _ (s3 _ _ gD)
      have at2 : atL (ms.take (i + 1)) z y = if (m.r == z && m.j == y) = true then atL (ms.take i) z y ++ [m] else atL (ms.take i) z y := by
        rw [et]
        unfold atL
        rw [List.filter_append, List.filter_cons, List.filter_nil]
        split
        · rfl
        · rw [List.append_nil]
      cases hb : (m.r == z && m.j == y) with
      | false =>
        rw [hb, if_neg Bool.false_ne_true] at at2
        refine ⟨zs, sF, gD4, ?_, by omega⟩
        rw [at2]
        exact hz'.same (s3.trans s4)
      | true =>
        rw [hb, if_pos rfl] at at2
        refine ⟨_, rfl, zs, gD4, small1000 (by have := fw.m; omega), zs ++ [.ref a], fun c o e => ?_, upd_same, ?_, by rw [List.length_append]; exact Nat.succ_le_succ lz'⟩
        · rw [upd_ne (ne_of_none e hD)]
          exact sF _ _ e
        · rw [at2]
          exact ((hz'.same (s3.trans s4)).snoc ⟨a, t, rfl, s4 _ _ (s3 _ _ ga), s4 _ _ (s3 _ _ gt)⟩).upd gD4
    · rintro H' ⟨zs, sA, gD, hz', lz'⟩
      have lm : ys.length = ms.length := hy.1
      rw [lm, List.take_length] at hz'
      have s3 := s1.trans s2
      have fr : H D = none := by
        cases e : H D with
        | none => rfl
        | some o => rw [s3 _ _ e] at hD; cases hD
      exact q D zs H' (s3.trans sA) fr gD hz'
end
end L2.K03
set_option Elab.async false
set_option linter.all false
set_option maxRecDepth 100000
set_option maxHeartbeats 4000000
namespace L2.K03
open PySem PySem.Spec PyProof.Rows L2.EV L2
/-! ### Manual's own == -/
instance decEf : DecidableEq Ef
  | .coins a, .coins b => decidable_of_iff (a = b) (by simp)
  | .fill a b, .fill c d => decidable_of_iff (a = c ∧ b = d) (by simp)
  | .coins _, .fill _ _ => isFalse (by simp)
  | .fill _ _, .coins _ => isFalse (by simp)
instance decMn : DecidableEq Mn := fun a b => decidable_of_iff (a.r = b.r ∧ a.j = b.j ∧ a.s = b.s ∧ a.e = b.e) (by cases a; cases b; simp)
theorem eqv_mns : ∀ ms ns : List Mn, PyData.eqvAll (ms.map dMn) (ns.map dMn) = decide (ms = ns)
  | [], [] => by simp [PyData.eqvAll]
  | [], _ :: _ => by simp [PyData.eqvAll]
  | _ :: _, [] => by simp [PyData.eqvAll]
  | m :: ms, n :: ns => by
    have ih := eqv_mns ms ns
    have e : PyData.eqv (dMn m) (dMn n) = decide (m = n) := by
      rw [Bool.eq_iff_iff, decide_eq_true_iff]
      exact eqv_mn m n
    show PyData.eqvAll (dMn m :: ms.map dMn) (dMn n :: ns.map dMn) = _
    rw [PySem.W.eqv_all_cons, ih, e]
    by_cases a : m = n <;> by_cases b : ms = ns <;> simp [a, b]
theorem eqv_dMs (ms ns : List Mn) : PyData.eqv (dMs ms) (dMs ns) = decide (ms = ns) := by
  show PyData.eqv (.list (ms.map dMn)) (.list (ns.map dMn)) = _
  rw [PyData.eqv]
  exact eqv_mns ms ns
theorem eqv_wds : ∀ ms ns : List Str, PyData.eqvAll (ms.map PyData.str) (ns.map PyData.str) = decide (ms = ns)
  | [], [] => by simp [PyData.eqvAll]
  | [], _ :: _ => by simp [PyData.eqvAll]
  | _ :: _, [] => by simp [PyData.eqvAll]
  | m :: ms, n :: ns => by
    have ih := eqv_wds ms ns
    have e : PyData.eqv (.str m) (.str n) = decide (m = n) := by
      rw [Bool.eq_iff_iff, decide_eq_true_iff]
      simp [PyData.eqv]
    show PyData.eqvAll (PyData.str m :: ms.map PyData.str) (PyData.str n :: ns.map PyData.str) = _
    rw [PySem.W.eqv_all_cons, ih, e]
    by_cases a : m = n <;> by_cases b : ms = ns <;> simp [a, b]
theorem eqv_dWs (ms ns : List Str) : PyData.eqv (dWs ms) (dWs ns) = decide (ms = ns) := by
  show PyData.eqv (.list (ms.map PyData.str)) (.list (ns.map PyData.str)) = _
  rw [PyData.eqv]
  exact eqv_wds ms ns
theorem shaped_dWs {ws : List Str} (h : ∀ x ∈ ws, Word x) : SeqAt.shaped (dWs ws) = true := by
  have dep : ∀ ws : List Str, PyData.depthAll (ws.map PyData.str) = 0 := fun ws => by
    induction ws with
    | nil => rfl
    | cons x ws ih =>
      show PyData.depthAll (PyData.str x :: ws.map PyData.str) = 0
      rw [PyData.depthAll, ih]
      simp [PyData.depth]
  unfold SeqAt.shaped
  show (PyData.canLay0 (.list (ws.map PyData.str)) && decide (PyData.depth (.list (ws.map PyData.str)) ≤ 64)) = true
  rw [PyData.canLay0, PyData.depth, dep, lay_words ws h]
  rfl
/-- its words and manners are as they should be -/
structure MOk (ms : List Mn) (bs es : List Str) : Prop where
  m : ∀ m ∈ ms, m.Ok
  b : ∀ x ∈ bs, Word x
  e : ∀ x ∈ es, Word x
abbrev sEq : Stmt := inClass (top 27) 4
theorem scEq : FnScope ["self", "other"] ["self", "other"] (defScope sEq) := ⟨rfl, rfl, rfl, by decide +kernel, rfl, by decide +kernel, by decide +kernel⟩
def spEq (K : PySem.W.Frag) : Sp := fun vs H Q _ => ∃ x ms bs es v, vs = [.ref x, v] ∧ ManuAt K H x ms bs es ∧ MOk ms bs es ∧ ((NoMan K H v ∧ Q (.bl false) H) ∨ ∃ y ns cs ds, v = .ref y ∧ ManuAt K H y ns cs ds ∧ MOk ns cs ds ∧ Q (.bl (decide (ms = ns ∧ bs = cs ∧ es = ds))) H)
section
variable {P : Program} {w : World} {K : PySem.W.Frag} {mg : Str → Option Value} {base : Heap} {f : Addr} {fd : FuncData}
theorem ok_eq (F : FunD K "__eq__" "Manual.__eq__" (defArgs sEq) (defBody sEq) (defScope sEq) [] [] f fd) (M : My K) (gC : mg "Manual" = some (.ref (aC K))) (mIs : mg "isinstance" = none) : FnOk P w K mg base CX0 1 f fd ["self", "other"] (spEq K) := by
  refine F.ok scEq (fun vs H Q E h => ?_) (fun cdv A outer s H vs Q E hr h => ?_)
  · obtain ⟨x, ms, bs, es, v, rfl, _⟩ := h
    rfl
  · obtain ⟨x, ms, bs, es, v, rfl, hx, ox, h⟩ := h
    have hu := hr.units
    refine ⟨_, PSs.nox (pss_one (ps_ret (pe_and (pe_callB call_isi (by rfl) mIs (by decide +kernel) (pa_cons (pv 1) (pa_cons (pe_glob (v := .ref (aC K)) (by rfl) gC rfl (by decide)) pa_nil)))
      (pe_and (pe_cmpR (op_eqD hu) (pe_fld (pv 0) rfl) (pe_fld (pv 1) rfl) (nomark _)) (pe_and (pe_cmpR (op_eqD hu) (pe_fld (pv 0) rfl) (pe_fld (pv 1) rfl) (nomark _)) (pe_one (pe_cmpR (op_eqD hu) (pe_fld (pv 0) rfl) (pe_fld (pv 1) rfl) (nomark _)))))))), ?_⟩
    rcases h with ⟨⟨t, ty, kt⟩, q⟩ | ⟨y, ns, cs, ds, rfl, hy, oy, q⟩
    · exact ⟨_, rfl, v, .ref (aC K), t, _, false, rfl, .own _, ty, kt, false, rfl, q⟩
    · obtain ⟨dx, p, q1, r, fs, ys, a1, a2, a3, a4, _, a5, a6, a7, a8⟩ := hx
      obtain ⟨dy, p', q', r', gs, zs, b1, b2, b3, b4, _, b5, b6, b7, b8⟩ := hy
      refine ⟨_, rfl, .ref y, .ref (aC K), _, _, true, rfl, .own _, .base (.ins b1 M.c M.ha M.hn M.ht M.hm), kit_self, true, rfl, ?_⟩
      refine ⟨_, rfl, x, aC K, dx, fs, .ref p, rfl, a1, M.c, M.m, a2, _, rfl, y, aC K, dy, gs, .ref p', rfl, b1, M.c, M.m, b2, dMs ms, dMs ns, .lst (SqL.of a5) a6.dp, .lst (SqL.of b5) b6.dp, shaped_mns ox.m, shaped_mns oy.m, _, rfl, ?_⟩
      rw [eqv_dMs]
      by_cases e1 : ms = ns
      · rw [decide_eq_true e1, if_pos rfl]
        refine ⟨_, rfl, x, aC K, dx, fs, .ref q1, rfl, a1, M.c, M.b, a3, _, rfl, y, aC K, dy, gs, .ref q', rfl, b1, M.c, M.b, b3, dWs bs, dWs cs, .lst (SqL.of a7) (dp_words bs), .lst (SqL.of b7) (dp_words cs), shaped_dWs ox.b, shaped_dWs oy.b, _, rfl, ?_⟩
        rw [eqv_dWs]
        by_cases e2 : bs = cs
        · rw [decide_eq_true e2, if_pos rfl]
          refine ⟨_, rfl, x, aC K, dx, fs, .ref r, rfl, a1, M.c, M.e, a4, _, rfl, y, aC K, dy, gs, .ref r', rfl, b1, M.c, M.e, b4, dWs es, dWs ds, .lst (SqL.of a8) (dp_words es), .lst (SqL.of b8) (dp_words ds), shaped_dWs ox.e, shaped_dWs oy.e, ?_⟩
          rw [eqv_dWs]
          rw [show decide (ms = ns ∧ bs = cs ∧ es = ds) = decide (es = ds) by simp [e1, e2]] at q
          exact q
        · rw [decide_eq_false e2, if_neg Bool.false_ne_true]
          rw [show decide (ms = ns ∧ bs = cs ∧ es = ds) = false by simp [e2]] at q
          exact q
      · rw [decide_eq_false e1, if_neg Bool.false_ne_true]
        rw [show decide (ms = ns ∧ bs = cs ∧ es = ds) = false by simp [e1]] at q
        exact q
end
end L2.K03
set_option Elab.async false
set_option linter.all false
set_option maxRecDepth 100000
set_option maxHeartbeats 4000000
namespace L2.K03
open PySem PySem.Spec PyProof.Rows L2.EV L2
/-! ### made == other -/
/-- its own == -/
structure OwnE (P : Program) (w : World) (K : PySem.W.Frag) (mg : Str → Option Value) (base : Heap) : Prop where
  ex : ∃ f fd, FnOk P w K mg base CX0 1 f fd ["self", "other"] (spEq K) ∧ Binds K fd ["self", "other"] [] ∧ PySem.W.findIn K (.ref (aC K)) "__eq__" = some (some (.ref f)) ∧ PySem.W.isFn K (.ref f) = true
def rEqM (K : PySem.W.Frag) : R2 := fun x y H Q => ∃ a ms bs es, x = .ref a ∧ ManuAt K H a ms bs es ∧ MOk ms bs es ∧
  ((∃ t, TyX K H y t ∧ PySem.W.kitOne K t (.ref (aC K)) = some false ∧ PySem.W.notFirst K (aC K) t = true ∧ Q (.bl false) H) ∨
    ∃ b ns cs ds, y = .ref b ∧ ManuAt K H b ns cs ds ∧ MOk ns cs ds ∧ Q (.bl (decide (ms = ns ∧ bs = cs ∧ es = ds))) H)
theorem op_eqM {X : Cx} (O : OwnE X.prog X.w X.K X.mg X.base) (M : My X.K) (hr : Room 1 X.A) : OpR X (compareOp .Eq) (rEqM X.K) := by
  obtain ⟨f, fd, F, hb, hs, hf⟩ := O.ex
  intro pins s σ H x y v u Q I rx ry h
  obtain ⟨a, ms, bs, es, rfl, hm, om, h⟩ := h
  cases rx
  obtain ⟨dx, fs, hx, _⟩ := hm.plain
  obtain ⟨mA, J, _⟩ := ins_get I.hok hx
  obtain ⟨od, J, _⟩ := J.look
  obtain ⟨m, hF⟩ := I.fr
  show wpAny (model X.prog X.w) X.A (richCompare .Eq (.ref a) u) (EP X pins σ Q) X.xe s
  have go : ∀ (t : Value) (b : Bool), TyX X.K H y t → PySem.W.notFirst X.K (aC X.K) t = true → spEq X.K [.ref a, y] H (fun r H' => r = .bl b ∧ H' = H) E0 → Q (.bl b) H → wpAny (model X.prog X.w) X.A (richCompare .Eq (.ref a) u) (EP X pins σ Q) X.xe s := fun t b ty nf hsp q => by
    obtain ⟨PH, kx, ph, _⟩ := kit_of I ry ty
    refine PySem.W.cmp_K (op := .Eq) (tb := t) hr.units0 hF I.ok.mod.kin J (kx.ty _ _ I.kIn ph) nf hs hf ?_
    have r2 : Vals [V.ref a, y] [Value.ref a, u] := .cons rfl (.cons ry .nil)
    refine wpAny_call (codeAny_mono (F.run X.A X.stack s H ⟨[.ref a, u], []⟩ [.ref a, u] [.ref a, y] _ E0 hr I.env0 (by
      have := hb s [.ref a, u] I.kIn rfl
      simpa using this) r2 hsp) fun r s' hq => ?_)
    cases r with
    | error e => exact pass0 (X := X) pins σ H s e s' I hq
    | ok fl =>
      cases fl with
      | ret w =>
        obtain ⟨z, H', I', rz, ez, eh⟩ := I.after hq
        subst ez eh
        cases rz
        exact ⟨.bl b, _, I', rfl, q⟩
      | next => exact False.elim hq
      | brk => exact False.elim hq
      | cont => exact False.elim hq
  rcases h with ⟨t, ty, kt, nf, q⟩ | ⟨b, ns, cs, ds, rfl, hn, on, q⟩
  · exact go t false ty nf ⟨a, ms, bs, es, y, rfl, hm, om, .inl ⟨⟨t, ty, kt⟩, rfl, rfl⟩⟩ q
  · exact go _ _ (M.ty hn) (by unfold PySem.W.notFirst; rw [beq_self_eq_true]; rfl) ⟨a, ms, bs, es, .ref b, rfl, hm, om, .inr ⟨b, ns, cs, ds, rfl, hn, on, rfl, rfl⟩⟩ q
end L2.K03
set_option Elab.async false
set_option linter.all false
set_option maxRecDepth 100000
set_option maxHeartbeats 4000000
namespace L2.K03
open PySem PySem.Spec PyProof.Rows L2.EV L2
/-! ### made != other: object.__ne__ over its own == -/
section
variable {M : Model} {prog : Program} {w : World} {A : Around} {E : Value → Shared → Prop} {s : Shared} {K : PySem.W.Frag} {x C f : Addr} {ox : Obj} {od : Option Obj} {b : Value}
theorem if_ne {args : List Value} {Q : Option Value → Shared → Prop} (X : K.In s.heap) (I : PySem.W.InstAt s.heap x ox C od) (hs : PySem.W.findIn K (.ref C) "__ne__" = some (some (.builtin "object.__ne__"))) (h : wpAny M A (call (.builtin "object.__ne__") (.ref x :: args)) (fun v => Q (some v)) E s) :
    wpAny M A (callSpecialIfBound? (.ref x) "__ne__" args) Q E s := by
  simp only [callSpecialIfBound?, bindSpecialIfBound?]
  refine wpAny_holding (wpAny_bind (wpAny_bind (wpAny_bind (I.type.here ((PySem.W.looks_findIn X hs).here ?_)))))
  refine wpAny_bind (wpAny_askSetting (wpAny_ite ?_))
  have last : wpAny M A (call (.builtin "object.__ne__") ([.ref x] ++ args) >>= fun v => pure (some v)) Q E s := wpAny_bind (wpAny_mono h (fun v s' z => wpAny_pure z) fun _ _ z => z)
  split
  · exact wpAny_bind (wpAny_of_eq (F.cmp_object.ne.bind _) (wpAny_pure (by exact last)))
  · exact wpAny_tryCatch (wpAny_bind (wpAny_of_eq (F.cmp_object.ne.bind _) (wpAny_pure (by exact last))))
theorem call_ne {Q : Value → Shared → Prop} (hu : A.in1.units < cLine) (X : K.In s.heap) (I : PySem.W.InstAt s.heap x ox C od) (hm : PySem.W.mroIn K C (.type "object") = some true) (he : PySem.W.findIn K (.ref C) "__eq__" = some (some (.ref f))) (hf : PySem.W.isFn K (.ref f) = true)
    (h : wpAny (model prog w) A.in1 (call (.ref f) [.ref x, b]) (fun v s' => ∃ r : Bool, v = .bool r ∧ Q (.bool (!r)) s') E s) : wpAny (model prog w) A (call (.builtin "object.__ne__") [.ref x, b]) Q E s := by
  refine wpAny_call (codeAny_call_builtin F.cmp_object.ne.plain F.cmpEntry_ne (PySem.W.check_slot F.cmpKind_ne F.cmpSplit_ne (I.type.andThen (PySem.W.looks_mroIn X hm)) (F.cmpArgs_ne _ _) ?_))
  unfold Builtin.«object.__ne__»
  refine wpAny_bind (m := slotArgs "__ne__" 1 _) (wpAny_of_eq (rfl : slotArgs "__ne__" 1 ⟨[.ref x, b], []⟩ = pure (.ref x, [b])) ?_)
  dsimp only
  refine wpAny_bind (wpAny_cRoomFor hu ?_)
  refine wpAny_bind (PySem.W.ifBound_K X I he hf (wpAny_mono h (fun v s' z => ?_) fun _ _ z => z))
  obtain ⟨r, rfl, q⟩ := z
  dsimp only
  exact wpAny_bind (wpAny_truthy_bool (wpAny_pure q))
theorem ne_own {L : Addr} {h0 : Heap} {m : Str → Option Value} {tb : Value} {Q : Value → Shared → Prop} (hu : A.units < cLine) (F0 : PyProof.Rows.Fr h0 L s.heap m) (X0 : K.In h0) (I : PySem.W.InstAt s.heap x ox C od) (hb : PySem.W.Looks (model prog w) s.heap (typeOf b) tb) (hn : PySem.W.notFirst K C tb = true)
    (hs : PySem.W.findIn K (.ref C) "__ne__" = some (some (.builtin "object.__ne__"))) (h : wpAny (model prog w) A (call (.builtin "object.__ne__") [.ref x, b]) (fun v s' => ∃ r : Bool, v = .bool r ∧ Q (.bool r) s') E s) : wpAny (model prog w) A (richCompare .NotEq (.ref x) b) Q E s := by
  have X := X0.keeps F0.keep
  have one : wpAny (model prog w) A (tryCompare (.ref x) "__ne__" b) (fun r s' => ∃ v, r = some v ∧ Q v s') E s := by
    unfold tryCompare
    refine wpAny_bind (if_ne X I hs (wpAny_mono h (fun v s' z => ?_) fun _ _ z => z))
    obtain ⟨r, rfl, q⟩ := z
    exact wpAny_pure ⟨_, rfl, q⟩
  unfold richCompare
  simp only [oneThing_ref]
  refine wpAny_holding (wpAny_bind (wpAny_cRoomFor hu (wpAny_bind (I.type.here (wpAny_bind (hb.here ?_))))))
  split
  · next q =>
    have e : PySem.W.subIn K tb (.ref C) = some false := (Bool.or_eq_true_iff.mp hn).elim (fun e => by rw [beq_iff_eq.mp e] at q; simp at q) fun e => beq_iff_eq.mp e
    refine wpAny_bind ((PySem.W.looks_subIn X e).here ?_)
    simp only [Bool.false_eq_true, if_false]
    refine wpAny_bind (wpAny_mono one (fun r s' z => ?_) fun _ _ z => z)
    obtain ⟨v, rfl, z⟩ := z
    exact wpAny_pure z
  · refine wpAny_bind (wpAny_pure ?_)
    simp only [Bool.false_eq_true, if_false]
    refine wpAny_bind (wpAny_mono one (fun r s' z => ?_) fun _ _ z => z)
    obtain ⟨v, rfl, z⟩ := z
    exact wpAny_pure z
end
/-- a manual has no __ne__ of its own -/
def NoNe (K : PySem.W.Frag) : Prop := PySem.W.findIn K (.ref (aC K)) "__ne__" = some (some (.builtin "object.__ne__"))
def rNeM (K : PySem.W.Frag) : R2 := fun x y H Q => rEqM K x y H fun v H' => ∃ b, v = .bl b ∧ Q (.bl (!b)) H'
theorem op_neM {X : Cx} (O : OwnE X.prog X.w X.K X.mg X.base) (M : My X.K) (N : NoNe X.K) (hr : Room 2 X.A) : OpR X (compareOp .NotEq) (rNeM X.K) := by
  obtain ⟨f, fd, F, hb, hs, hf⟩ := O.ex
  intro pins s σ H x y v u Q I rx ry h
  obtain ⟨a, ms, bs, es, rfl, hm, om, h⟩ := h
  cases rx
  obtain ⟨dx, fs, hx, _⟩ := hm.plain
  obtain ⟨mA, J, _⟩ := ins_get I.hok hx
  obtain ⟨od, J, _⟩ := J.look
  obtain ⟨m, hF⟩ := I.fr
  show wpAny (model X.prog X.w) X.A (richCompare .NotEq (.ref a) u) (EP X pins σ Q) X.xe s
  have go : ∀ (t : Value) (b : Bool), TyX X.K H y t → PySem.W.notFirst X.K (aC X.K) t = true → spEq X.K [.ref a, y] H (fun r H' => r = .bl b ∧ H' = H) E0 → Q (.bl (!b)) H → wpAny (model X.prog X.w) X.A (richCompare .NotEq (.ref a) u) (EP X pins σ Q) X.xe s := fun t b ty nf hsp q => by
    obtain ⟨PH, kx, ph, _⟩ := kit_of I ry ty
    refine ne_own hr.units0 hF I.ok.mod.kin J (kx.ty _ _ I.kIn ph) nf N (call_ne hr.in1.units0 I.kIn J M.hm hs hf ?_)
    have r2 : Vals [V.ref a, y] [Value.ref a, u] := .cons rfl (.cons ry .nil)
    have e0 : Env0 X.prog X.w X.K X.mg X.base X.A.in1 X.stack s H := by
      have e := I.env0
      exact ⟨e.frames, e.mod, e.bs, e.bsz, e.funs, e.frf, e.hok, e.bare⟩
    refine wpAny_call (codeAny_mono (F.run X.A.in1 X.stack s H ⟨[.ref a, u], []⟩ [.ref a, u] [.ref a, y] _ E0 hr.in1 e0 (by
      have := hb s [.ref a, u] I.kIn rfl
      simpa using this) r2 hsp) fun r s' hq => ?_)
    cases r with
    | error e => exact pass0 (X := X) pins σ H s e s' I hq
    | ok fl =>
      cases fl with
      | ret w =>
        obtain ⟨z, H', I', rz, ez, eh⟩ := I.after hq
        subst ez eh
        cases rz
        exact ⟨b, rfl, _, rfl, .bl (!b), _, I', rfl, q⟩
      | next => exact False.elim hq
      | brk => exact False.elim hq
      | cont => exact False.elim hq
  rcases h with ⟨t, ty, kt, nf, b, eb, q⟩ | ⟨b, ns, cs, ds, rfl, hn, on, c, ec, q⟩
  · cases eb
    exact go t false ty nf ⟨a, ms, bs, es, y, rfl, hm, om, .inl ⟨⟨t, ty, kt⟩, rfl, rfl⟩⟩ q
  · cases ec
    exact go _ _ (M.ty hn) (by unfold PySem.W.notFirst; rw [beq_self_eq_true]; rfl) ⟨a, ms, bs, es, .ref b, rfl, hm, om, .inr ⟨b, ns, cs, ds, rfl, hn, on, rfl, rfl⟩⟩ q
end L2.K03
set_option Elab.async false
set_option linter.all false
set_option maxRecDepth 100000
set_option maxHeartbeats 4000000
namespace L2.K03
open PySem PySem.Spec PyProof.Rows L2.EV L2
/-! ### the law's own rooms and jobs of a world -/
/-- found + [z] * int(z not in found): the list that comes -/
theorem rep_if (z : Str) (L : List Str) : L.map V.str ++ (List.replicate ((if (!inV (.str z) (L.map V.str)) = true then 1 else 0 : Int)).toNat [V.str z]).flatten = (if z ∈ L then L else L ++ [z]).map V.str := by
  have e : inV (.str z) (L.map V.str) = decide (z ∈ L) := by
    rw [inV_str, Bool.eq_iff_iff, List.any_eq_true, decide_eq_true_iff]
    constructor
    · rintro ⟨y, hy, e⟩
      rw [← eq_of_beq e]
      exact hy
    · exact fun hz => ⟨z, hz, beq_self_eq_true z⟩
  rw [e]
  by_cases h : z ∈ L
  · rw [decide_eq_true h, if_pos h]
    simp
  · rw [decide_eq_false h, if_neg h]
    simp
theorem bit_ok (b : Bool) : -(2 ^ 63) ≤ (if b = true then 1 else 0 : Int) ∧ (if b = true then 1 else 0 : Int) < 2 ^ 63 ∧ 1 * (if b = true then 1 else 0 : Int).toNat ≤ sizeLine := by
  cases b <;> decide
abbrev sLJ : Stmt := top 48
abbrev nLJ : List Str := ["_law_world_here", "_law_found", "_law_manner_here"]
theorem scLJ : FnScope nLJ ["_law_world_here"] (defScope sLJ) := ⟨rfl, rfl, rfl, by decide +kernel, rfl, by decide +kernel, by decide +kernel⟩
def spLJ : Sp := fun vs H Q _ => ∃ (a : Addr) (ms : List Mn) (bs es rs js : List Str), vs = [.ref a] ∧ WdAt H a ms bs es rs js ∧ ms.length ≤ 100 ∧ ∀ p H', Same H H' → H p = none → H' p = some (.lst ((setW (jobsL ms)).map V.str)) → Q (.ref p) H'
section
variable {P : Program} {w : World} {K : PySem.W.Frag} {mg : Str → Option Value} {base : Heap} {f : Addr} {fd : FuncData}
theorem ok_lj (F : FnP K "_law_jobs" sLJ f fd) (mI : mg "int" = none) (mSo : mg "sorted" = none) : FnOk P w K mg base CX0 1 f fd ["_law_world_here"] spLJ := by
  refine F.ok scLJ (fun vs H Q E h => ?_) (fun cdv A outer s H vs Q E hr h => ?_)
  · obtain ⟨a, ms, bs, es, rs, js, rfl, _⟩ := h
    rfl
  · obtain ⟨a, ms, bs, es, rs, js, rfl, ⟨lm, lb, le, lr, lj, ws, h1, h2, h3, _⟩, l1, q⟩ := h
    have hu := hr.units
    refine ⟨_, PSs.nox (pss_cons (ps_set (i := 1) scLJ.nd rfl (Or.inl rfl) (pe_lst pa_nil))
      (pss_cons (ps_for PassesOwn.never rfl (pi_list (pe_ix ix_list (pv 0) pe_int (fun _ _ => rfl))) (pg_name (i := 2) scLJ.nd rfl (Or.inl rfl))
        (pss_one (ps_set (i := 1) scLJ.nd rfl (Or.inl rfl) (pe_op op_cat (pv 1) (pe_op op_rep (pe_lst (pa_cons (pe_ix ix_tup (pv 2) pe_int (fun _ _ => rfl)) pa_nil))
          (pe_callTy call_int1 (by rfl) mI (by decide +kernel) (pa_cons (pe_cmpR op_notIn_seq (pe_ix ix_tup (pv 2) pe_int (fun _ _ => rfl)) (pv 1) (by rfl)) pa_nil)))))))
      (pss_one (ps_ret (pe_callB (cr_sortedDp hu) (by rfl) mSo (by decide +kernel) (pa_cons (pv 1) pa_nil)))))), ?_⟩
    refine ⟨(by show 0 ≤ sizeLine; decide), fun l0 hl0 => ?_⟩
    obtain ⟨H1, e1, s1, g1⟩ : ∃ H1, H1 = upd H l0 (.lst []) ∧ Same H H1 ∧ H1 l0 = some (.lst []) := ⟨_, rfl, same_upd hl0, upd_same⟩
    rw [← e1]
    clear e1
    refine ⟨_, rfl, a, _, _, .ref lm, rfl, rfl, SqL.of (s1 _ _ h1), atI_nat (j := 0) rfl, lm, rfl, ⟨_, SqL.of (s1 _ _ h2)⟩, ?_⟩
    have g2 := s1 _ _ h2
    have hy := h3.same s1
    refine for_list (K := K) (a := lm) (xs := ws) (fun i σ H' => ∃ l L v2, σ = [some (.ref a), some (.ref l), v2] ∧ Same H1 H' ∧ H' l = some (.lst (L.map V.str)) ∧ L.Nodup ∧ (∀ z, z ∈ L ↔ z ∈ jobsL (ms.take i)) ∧ L.length ≤ i)
      ⟨l0, [], none, rfl, fun _ _ e => e, g1, List.nodup_nil, fun z => by rw [List.take_zero]; rfl, Nat.le_refl _⟩ (fun i σ H' _ ⟨_, _, _, _, sA, _⟩ => SqL.of (sA _ _ g2)) ?_ ?_
    · rintro i v σ H2 hv ⟨l, L, v2, rfl, sA, gl, dL, mL, lL⟩
      have li : i < ms.length := by
        have := (List.getElem?_eq_some_iff.mp hv).1
        rw [hy.1] at this
        exact this
      obtain ⟨m, em⟩ : ∃ m, ms[i]? = some m := ⟨_, List.getElem?_eq_getElem li⟩
      obtain ⟨b, t, rfl, gb, _⟩ := (hy.2 i v m hv em).same sA
      have et : ms.take (i + 1) = ms.take i ++ [m] := by rw [List.take_succ, em]; rfl
      obtain ⟨d1, m1, z1⟩ := put_once m.j L dL
      refine ⟨_, rfl, _, rfl, b, _, _, .str m.j, rfl, rfl, SqT.of gb, atI_nat (j := 1) rfl, (by show 1 ≤ sizeLine; decide), fun p1 hp1 => ?_⟩
      obtain ⟨H3, e3, s3, g3⟩ : ∃ H3, H3 = upd H2 p1 (.lst [.str m.j]) ∧ Same H2 H3 ∧ H3 p1 = some (.lst [.str m.j]) := ⟨_, rfl, same_upd hp1, upd_same⟩
      rw [← e3]
      clear e3
      refine ⟨_, rfl, b, _, _, .str m.j, rfl, rfl, SqT.of (s3 _ _ gb), atI_nat (j := 1) rfl, _, rfl, l, _, rfl, .inl (SqL.of (s3 _ _ gl)), rfl, flat_strs _, .inr ⟨_, rfl, p1, _, _, rfl, rfl, g3, ?_, ?_, ?_, fun p2 hp2 => ?_⟩⟩
      · exact (bit_ok _).1
      · exact (bit_ok _).2.1
      · exact (bit_ok _).2.2
      refine ⟨l, p2, _, _, rfl, rfl, same_upd hp2 _ _ (s3 _ _ gl), upd_same, ?_, fun p3 hp3 => ?_⟩
      · have := (bit_ok (!inV (.str m.j) (L.map V.str))).2.2
        rw [List.length_map, List.length_flatten, List.map_replicate, List.sum_replicate_nat, sizeLine_eq]
        have le1 : ((if (!inV (.str m.j) (L.map V.str)) = true then 1 else 0 : Int)).toNat ≤ 1 := by split <;> decide
        show L.length + _ * 1 ≤ _
        omega
      exact ⟨p3, _, _, rfl, sA.trans (s3.trans ((same_upd hp2).trans (same_upd hp3))), upd_same.trans (congrArg (fun z => some (HO.lst z)) (rep_if m.j L)), d1, fun z => by rw [m1, mL, et]; unfold jobsL; simp, by omega⟩
    · rintro σ H2 ⟨l, L, v2, rfl, sA, gl, dL, mL, lL⟩
      have lm' : ws.length = ms.length := hy.1
      rw [lm', List.take_length] at mL
      refine ⟨_, rfl, ?_⟩
      dsimp only [tNil]
      refine sortW (SqL.of gl) fun p hp => ?_
      have s02 := s1.trans sA
      have fr : H p = none := by
        cases e : H p with
        | none => rfl
        | some o => rw [s02 _ _ e] at hp; cases hp
      rw [setW_eq dL mL]
      exact q p _ (s02.trans (same_upd hp)) fr upd_same
end
end L2.K03
set_option Elab.async false
set_option linter.all false
set_option maxRecDepth 100000
set_option maxHeartbeats 4000000
namespace L2.K03
open PySem PySem.Spec PyProof.Rows L2.EV L2
theorem wipe1 (σ : St) (j : Nat) (x : V) : wipe ((wipe σ [j]).set j (some x)) [j] = wipe σ [j] := by
  show ((σ.set j none).set j (some x)).set j none = σ.set j none
  rw [List.set_set, List.set_set]
abbrev sLR : Stmt := top 47
abbrev nLR : List Str := ["_law_world_here", "_law_found", "_law_room", "_law_manner_here"]
theorem scLR : FnScope nLR ["_law_world_here"] (defScope sLR) := ⟨rfl, rfl, rfl, by decide +kernel, rfl, by decide +kernel, by decide +kernel⟩
def spLR : Sp := fun vs H Q _ => ∃ (a : Addr) (ms : List Mn) (bs es rs js : List Str), vs = [.ref a] ∧ WdAt H a ms bs es rs js ∧ Few ms bs es ∧ ∀ p H', Same H H' → H p = none → H' p = some (.lst ((setW (roomsL ms bs es)).map V.str)) → Q (.ref p) H'
abbrev tIx3 (K : PySem.W.Frag) (i : Int) : TE := tOp (rIxT K) (tVar 3) (tC (.int i))
section
variable {P : Program} {w : World} {K : PySem.W.Frag} {mg : Str → Option Value} {base : Heap} {f : Addr} {fd : FuncData}
theorem ok_lr (F : FnP K "_law_rooms" sLR f fd) (mI : mg "int" = none) (mSo : mg "sorted" = none) : FnOk P w K mg base CX0 1 f fd ["_law_world_here"] spLR := by
  refine F.ok scLR (fun vs H Q E h => ?_) (fun cdv A outer s H vs Q E hr h => ?_)
  · obtain ⟨a, ms, bs, es, rs, js, rfl, _⟩ := h
    rfl
  · obtain ⟨a, ms, bs, es, rs, js, rfl, ⟨lm, lb, le, lr, lj, ws, h1, h2, h3, h4, h5, _⟩, fw, q⟩ := h
    have hu := hr.units
    refine ⟨_, PSs.nox (pss_cons (ps_set (i := 1) scLR.nd rfl (Or.inl rfl) (pe_lst pa_nil))
      (pss_cons (ps_for PassesOwn.never rfl (pi_list (pe_op op_cat (pe_op op_cat (pe_op op_cat
          (pe_lc (own := [("_law_manner_here", 3)]) (g := gName 3) (tt := tYes) (te := tIx3 K 0) (by rfl) scLR.nd (pi_list (pe_ix ix_list (pv 0) pe_int (fun _ _ => rfl))) (blkOk_by (own := [("_law_manner_here", 3)]) (N := nLR) (sc := defScope sLR) (by decide +kernel))
            (fun _ _ _ _ _ => pg_name (i := 3) scLR.nd rfl (Or.inl rfl)) (fun _ _ _ _ _ => pts_nil) (fun _ _ _ _ _ => pe_ix ix_tup (pv 3) pe_int (fun _ _ => rfl)))
          (pe_lc (own := [("_law_manner_here", 3)]) (g := gName 3) (tt := tYes) (te := tIx3 K 2) (by rfl) scLR.nd (pi_list (pe_ix ix_list (pv 0) pe_int (fun _ _ => rfl))) (blkOk_by (own := [("_law_manner_here", 3)]) (N := nLR) (sc := defScope sLR) (by decide +kernel))
            (fun _ _ _ _ _ => pg_name (i := 3) scLR.nd rfl (Or.inl rfl)) (fun _ _ _ _ _ => pts_nil) (fun _ _ _ _ _ => pe_ix ix_tup (pv 3) pe_int (fun _ _ => rfl))))
          (pe_ix ix_list (pv 0) pe_int (fun _ _ => rfl))) (pe_ix ix_list (pv 0) pe_int (fun _ _ => rfl)))) (pg_name (i := 2) scLR.nd rfl (Or.inl rfl))
        (pss_one (ps_set (i := 1) scLR.nd rfl (Or.inl rfl) (pe_op op_cat (pv 1) (pe_op op_rep (pe_lst (pa_cons (pv 2) pa_nil))
          (pe_callTy call_int1 (by rfl) mI (by decide +kernel) (pa_cons (pe_cmpR op_notIn_seq (pv 2) (pv 1) (by rfl)) pa_nil)))))))
      (pss_one (ps_ret (pe_callB (cr_sortedDp hu) (by rfl) mSo (by decide +kernel) (pa_cons (pv 1) pa_nil)))))), ?_⟩
    refine ⟨(by show 0 ≤ sizeLine; decide), fun l0 hl0 => ?_⟩
    obtain ⟨H1, e1, s1, g1⟩ : ∃ H1, H1 = upd H l0 (.lst []) ∧ Same H H1 ∧ H1 l0 = some (.lst []) := ⟨_, rfl, same_upd hl0, upd_same⟩
    rw [← e1]
    clear e1
    have walk : ∀ {σ : St} {HH : Hp} {D : Addr} {Qd : Hp → Prop} (k : Nat) (g : Mn → Str) (hk : ∀ (m : Mn) (t : Addr), ([V.str m.r, V.str m.j, V.str m.s, V.ref t])[k]? = some (.str (g m))) (s0 : Same H HH) (hs : wipe σ [3] = wipe σ [3]) (h3' : ∀ v, (wipe σ [3]).set 3 (some v) = ((wipe σ [3]).set 3 (some v))) (l3 : 3 < σ.length) (hD : HH D = none)
        (q : ∀ H', Same HH H' → H' D = some (.lst ((ms.map g).map V.str)) → Qd H'), _ := fun {σ HH D Qd} k g hk s0 _ _ l3 hD q =>
      lc_list (K := K) (a := lm) (xs := ws) (g := gName 3) (tt := tYes) (te := tIx3 K (k : Int)) (vs := [3]) (σ := σ) (H1 := HH) (D := D) (Qd := Qd) (fun i H' => Same HH H' ∧ H' D = some (.lst (((ms.take i).map g).map V.str))) ⟨same_upd hD, upd_same⟩ (fun i H' _ ⟨sA, _⟩ => SqL.of (sA _ _ (s0 _ _ h2)))
        (fun i x H' hx ⟨sA, gA⟩ => by
          have li : i < ms.length := by
            have := (List.getElem?_eq_some_iff.mp hx).1
            rw [h3.1] at this
            exact this
          obtain ⟨m, em⟩ : ∃ m, ms[i]? = some m := ⟨_, List.getElem?_eq_getElem li⟩
          obtain ⟨b, t, rfl, gb, _⟩ := (h3.2 i x m hx em).same (s0.trans sA)
          refine ⟨wipe1 σ 3 (.ref b), ?_⟩
          dsimp only [tYes]
          rw [if_pos rfl]
          have l3' : ((wipe σ [3]).set 3 (some (V.ref b)))[3]? = some (some (.ref b)) := by
            show ((σ.set 3 none).set 3 (some (V.ref b)))[3]? = _
            rw [List.set_set, List.getElem?_set_self l3]
          refine ⟨_, l3', b, _, _, .str (g m), rfl, rfl, SqT.of gb, atI_nat (j := k) (hk m t), _, gA, small1000 (by rw [List.length_map, List.length_map, List.length_take]; have := fw.m; omega), ?_, ?_⟩
          · intro c o e
            rw [upd_ne (ne_of_none e hD)]
            exact sA _ _ e
          · rw [upd_same, List.take_succ, em, List.map_append, List.map_append]
            rfl)
        (fun H' ⟨sA, gA⟩ => q H' sA (by rw [h3.1, List.take_length] at gA; exact gA))
    refine ⟨_, rfl, a, _, _, .ref lm, rfl, rfl, SqL.of (s1 _ _ h1), atI_nat (j := 0) rfl, lm, rfl, ⟨_, SqL.of (s1 _ _ h2)⟩, fun D1 hD1 => walk 0 (fun m => m.r) (fun m t => rfl) s1 rfl (fun _ => rfl) (by show 3 < 4; decide) hD1 fun H2 s2 gD1 => ?_⟩
    have s02 := s1.trans s2
    refine ⟨_, rfl, a, _, _, .ref lm, rfl, rfl, SqL.of (s02 _ _ h1), atI_nat (j := 0) rfl, lm, rfl, ⟨_, SqL.of (s02 _ _ h2)⟩, fun D2 hD2 => walk 2 (fun m => m.s) (fun m t => rfl) s02 rfl (fun _ => rfl) (by show 3 < 4; decide) hD2 fun H3 s3 gD2 => ?_⟩
    have s03 := s02.trans s3
    have lr1 := fw.m
    have lr2 := fw.b
    have lr3 := fw.e
    refine ⟨D1, D2, _, _, rfl, rfl, s3 _ _ gD1, gD2, by simp only [List.length_map]; rw [sizeLine_eq]; omega, fun p1 hp1 => ?_⟩
    obtain ⟨H4, e4, s4, g4⟩ : ∃ H4, H4 = upd H3 p1 (.lst ((ms.map fun m => m.r).map V.str ++ (ms.map fun m => m.s).map V.str)) ∧ Same H3 H4 ∧ H4 p1 = some (.lst ((ms.map fun m => m.r).map V.str ++ (ms.map fun m => m.s).map V.str)) := ⟨_, rfl, same_upd hp1, upd_same⟩
    rw [← e4]
    clear e4
    have s04 := s03.trans s4
    refine ⟨_, rfl, a, _, _, .ref lb, rfl, rfl, SqL.of (s04 _ _ h1), atI_nat (j := 1) rfl, p1, lb, _, _, rfl, rfl, g4, s04 _ _ h4, by simp only [List.length_append, List.length_map]; rw [sizeLine_eq]; omega, fun p2 hp2 => ?_⟩
    obtain ⟨H5, e5, s5, g5⟩ : ∃ H5, H5 = upd H4 p2 (.lst ((ms.map fun m => m.r).map V.str ++ (ms.map fun m => m.s).map V.str ++ bs.map V.str)) ∧ Same H4 H5 ∧ H5 p2 = some (.lst ((ms.map fun m => m.r).map V.str ++ (ms.map fun m => m.s).map V.str ++ bs.map V.str)) := ⟨_, rfl, same_upd hp2, upd_same⟩
    rw [← e5]
    clear e5
    have s05 := s04.trans s5
    refine ⟨_, rfl, a, _, _, .ref le, rfl, rfl, SqL.of (s05 _ _ h1), atI_nat (j := 2) rfl, p2, le, _, _, rfl, rfl, g5, s05 _ _ h5, by simp only [List.length_append, List.length_map]; rw [sizeLine_eq]; omega, fun p3 hp3 => ?_⟩
    obtain ⟨W, eW⟩ : ∃ W : List Str, W = (ms.map fun m => m.r) ++ (ms.map fun m => m.s) ++ bs ++ es := ⟨_, rfl⟩
    have lW : W.length ≤ 400 := by rw [eW]; simp only [List.length_append, List.length_map]; omega
    have mW : ∀ z, z ∈ W ↔ z ∈ roomsL ms bs es := fun z => by
      rw [eW]
      unfold roomsL
      simp only [List.mem_append, List.mem_map, List.mem_flatMap, List.mem_cons, List.not_mem_nil, or_false]
      constructor
      · rintro (((⟨m, hm, e⟩ | ⟨m, hm, e⟩) | h) | h)
        · exact .inr ⟨m, hm, .inl e.symm⟩
        · exact .inr ⟨m, hm, .inr e.symm⟩
        · exact .inl (.inl h)
        · exact .inl (.inr h)
      · rintro ((h | h) | ⟨m, hm, e | e⟩)
        · exact .inl (.inr h)
        · exact .inr h
        · exact .inl (.inl (.inl ⟨m, hm, e.symm⟩))
        · exact .inl (.inl (.inr ⟨m, hm, e.symm⟩))
    obtain ⟨H6, e6, s6, g6⟩ : ∃ H6, H6 = upd H5 p3 (.lst ((ms.map fun m => m.r).map V.str ++ (ms.map fun m => m.s).map V.str ++ bs.map V.str ++ es.map V.str)) ∧ Same H5 H6 ∧ H6 p3 = some (.lst (W.map V.str)) := ⟨_, rfl, same_upd hp3, by rw [upd_same, eW]; simp only [List.map_append]⟩
    rw [← e6]
    clear e6 eW
    have s06 := s05.trans s6
    refine ⟨p3, rfl, ⟨_, SqL.of g6⟩, ?_⟩
    have g1' := s6 _ _ (s5 _ _ (s4 _ _ (s3 _ _ (s2 _ _ g1))))
    refine for_list (K := K) (a := p3) (xs := W.map V.str) (fun i σ H' => ∃ l L v2 v3, σ = [some (.ref a), some (.ref l), v2, v3] ∧ Same H6 H' ∧ H' l = some (.lst (L.map V.str)) ∧ L.Nodup ∧ (∀ z, z ∈ L ↔ z ∈ W.take i) ∧ L.length ≤ i)
      ⟨l0, [], none, none, rfl, fun _ _ e => e, g1', List.nodup_nil, fun z => by rw [List.take_zero], Nat.le_refl _⟩ (fun i σ H' _ ⟨_, _, _, _, _, sA, _⟩ => SqL.of (sA _ _ g6)) ?_ ?_
    · rintro i v σ H7 hv ⟨l, L, v2, v3, rfl, sA, gl, dL, mL, lL⟩
      rw [List.getElem?_map] at hv
      cases ez : W[i]? with
      | none => rw [ez] at hv; cases hv
      | some z =>
        rw [ez] at hv
        obtain rfl : V.str z = v := Option.some.inj hv
        have li := (List.getElem?_eq_some_iff.mp ez).1
        have et : W.take (i + 1) = W.take i ++ [z] := by rw [List.take_succ, ez]; rfl
        obtain ⟨d1, m1, z1⟩ := put_once z L dL
        refine ⟨_, rfl, _, rfl, (by show 1 ≤ sizeLine; decide), fun q1 hq1 => ?_⟩
        obtain ⟨H8, e8, s8, g8⟩ : ∃ H8, H8 = upd H7 q1 (.lst [.str z]) ∧ Same H7 H8 ∧ H8 q1 = some (.lst [.str z]) := ⟨_, rfl, same_upd hq1, upd_same⟩
        rw [← e8]
        clear e8
        refine ⟨_, rfl, _, rfl, l, _, rfl, .inl (SqL.of (s8 _ _ gl)), rfl, flat_strs _, .inr ⟨_, rfl, q1, _, _, rfl, rfl, g8, (bit_ok _).1, (bit_ok _).2.1, (bit_ok _).2.2, fun q2 hq2 => ?_⟩⟩
        refine ⟨l, q2, _, _, rfl, rfl, same_upd hq2 _ _ (s8 _ _ gl), upd_same, ?_, fun q3 hq3 => ?_⟩
        · rw [List.length_map, List.length_flatten, List.map_replicate, List.sum_replicate_nat, sizeLine_eq]
          have le1 : ((if (!inV (.str z) (L.map V.str)) = true then 1 else 0 : Int)).toNat ≤ 1 := by split <;> decide
          show L.length + _ * 1 ≤ _
          omega
        exact ⟨q3, _, _, _, rfl, sA.trans (s8.trans ((same_upd hq2).trans (same_upd hq3))), upd_same.trans (congrArg (fun z => some (HO.lst z)) (rep_if z L)), d1, fun y => by rw [m1, mL, et, List.mem_append, List.mem_singleton], by omega⟩
    · rintro σ H7 ⟨l, L, v2, v3, rfl, sA, gl, dL, mL, lL⟩
      rw [List.length_map, List.take_length] at mL
      refine ⟨_, rfl, ?_⟩
      dsimp only [tNil]
      refine sortW (SqL.of gl) fun p hp => ?_
      have s07 := s06.trans sA
      have fr : H p = none := by
        cases e : H p with
        | none => rfl
        | some o => rw [s07 _ _ e] at hp; cases hp
      rw [setW_eq dL mL, setW_same mW]
      exact q p _ (s07.trans (same_upd hp)) fr upd_same
end
end L2.K03
set_option Elab.async false
set_option linter.all false
set_option maxRecDepth 100000
set_option maxHeartbeats 4000000
namespace L2.EV
open PySem PySem.Spec PyProof.Rows
theorem passF {P : Program} {w : World} {X : Cx} : Passes (L2.CX P w) X (fun _ _ _ => False) := fun _ _ _ _ _ _ _ ⟨_, _, _, _, _, _, _, _, _, _, _, _, h⟩ => h.elim
end L2.EV
namespace L2.K03
open PySem PySem.Spec PyProof.Rows L2.EV L2
/-! ### a manual tells what its world says -/
section
variable {X : Cx} {k j : Nat} {x : Str} {ps : List Str} {sp : Sp} {p pos : Pos} {e : Expr} {es : List Expr} {t : TA}
theorem pe_gotF (g : GotX X.prog X.w X.K X.mg X.base k x ps sp) (hr : Room j X.A) (ha : PA X (e :: es) t) (hg : Gl X x := by rfl) (hk : k ≤ j := by decide) (hdb : (x == ("__debug__" : Str)) = false := by decide)
    (he : starEach (e :: es) X.env = (false, eval e X.env) :: starEach es X.env := by rfl) (hpl : (backTo pos (starEach es X.env)).any (·.1) = false := by rfl) : PE X (.Call (.Name x p) (e :: es) [] pos) (tCall sp [] (fun _ _ _ => False) t) := by
  obtain ⟨f, fd, G, b, kp, m⟩ := g.ex
  exact pe_call G (hr.mono hk) hg m kp b .nil passF ha hdb he hpl
end
theorem WdAt.same {H H' : Hp} {a : Addr} {ms : List Mn} {bs es rs js : List Str} (h : WdAt H a ms bs es rs js) (s : Same H H') : WdAt H' a ms bs es rs js := by
  obtain ⟨lm, lb, le, lr, lj, ws, h1, h2, h3, h4, h5, h6, h7⟩ := h
  exact ⟨lm, lb, le, lr, lj, ws, s _ _ h1, s _ _ h2, h3.same s, s _ _ h4, s _ _ h5, s _ _ h6, s _ _ h7⟩
theorem alk_ef {H : Hp} {t u : Addr} {e : Ef} (h : EfAt H t e) (g : EfAt H u e) : Alk H 2 (.ref t) (.ref u) := by
  refine .tup h g rfl (by cases e <;> first | (show 2 ≤ 900; decide) | (show 3 ≤ 900; decide)) fun i x y a b => ?_
  rw [a] at b
  cases b
  refine .flat ?_
  cases e with
  | coins c =>
    have := List.mem_of_getElem? a
    simp only [Ef.vs, List.mem_cons, List.not_mem_nil, or_false] at this
    rcases this with rfl | rfl <;> rfl
  | fill c d =>
    have := List.mem_of_getElem? a
    simp only [Ef.vs, List.mem_cons, List.not_mem_nil, or_false] at this
    rcases this with rfl | rfl | rfl <;> rfl
theorem alk_mn {H : Hp} {v u : V} {m : Mn} (h : ManAt H v m) (g : ManAt H u m) : Alk H 3 v u := by
  obtain ⟨a, t, rfl, h1, h2⟩ := h
  obtain ⟨b, s, rfl, g1, g2⟩ := g
  refine .tup h1 g1 rfl (by show 4 ≤ 900; decide) fun i x y p q => ?_
  match i, p, q with
  | 0, p, q => cases p; cases q; exact .flat rfl
  | 1, p, q => cases p; cases q; exact .flat rfl
  | 2, p, q => cases p; cases q; exact .flat rfl
  | 3, p, q => cases p; cases q; exact alk_ef h2 g2
  | n + 4, p, q => cases p
theorem alk_mns {H : Hp} {a b : Addr} {xs ys : List V} {ms : List Mn} (ha : H a = some (.lst xs)) (hb : H b = some (.lst ys)) (h : Mans H xs ms) (g : Mans H ys ms) (few : ms.length ≤ 900) : Alk H 4 (.ref a) (.ref b) := by
  refine .lst ha hb (h.1.trans g.1.symm) (by rw [h.1]; exact few) fun i x y p q => ?_
  have li : i < ms.length := by
    have := (List.getElem?_eq_some_iff.mp p).1
    rw [h.1] at this
    exact this
  obtain ⟨m, em⟩ : ∃ m, ms[i]? = some m := ⟨_, List.getElem?_eq_getElem li⟩
  exact alk_mn (h.2 i x m p em) (g.2 i y m q em)
theorem alk_wds {H : Hp} {a b : Addr} {ws : List Str} {n : Nat} (ha : H a = some (.lst (ws.map V.str))) (hb : H b = some (.lst (ws.map V.str))) (few : ws.length ≤ 900) : Alk H (n + 2) (.ref a) (.ref b) := by
  refine .lst ha hb rfl (by rw [List.length_map]; exact few) fun i x y p q => ?_
  rw [p] at q
  cases q
  obtain ⟨z, _, rfl⟩ := item_str p
  exact .flat rfl
theorem few_srt {ms : List Mn} {bs es : List Str} (h : Few ms bs es) : Few (srtM ms) (srtW bs) (srtW es) := ⟨by rw [(srtM_perm ms).length_eq]; exact h.m, by rw [(srtW_perm bs).length_eq]; exact h.b, by rw [(srtW_perm es).length_eq]; exact h.e⟩
theorem rooms_srt (ms : List Mn) (bs es : List Str) : setW (roomsL (srtM ms) (srtW bs) (srtW es)) = setW (roomsL ms bs es) := by
  refine setW_same fun x => ?_
  unfold roomsL
  simp only [List.mem_append, List.mem_flatMap, (srtM_perm ms).mem_iff, (srtW_perm bs).mem_iff, (srtW_perm es).mem_iff]
theorem jobs_srt (ms : List Mn) : setW (jobsL (srtM ms)) = setW (jobsL ms) := by
  refine setW_same fun x => ?_
  unfold jobsL
  simp only [List.mem_map, (srtM_perm ms).mem_iff]
theorem once_len : ∀ l : List Str, (once l).length ≤ l.length
  | [] => Nat.le_refl _
  | x :: l => by
    have := once_len l
    unfold once
    split
    · exact Nat.le_succ_of_le this
    · exact Nat.succ_le_succ this
theorem setW_len (l : List Str) : (setW l).length ≤ l.length := by
  unfold setW
  rw [(srtW_perm _).length_eq]
  exact once_len l
abbrev sAl : Stmt := top 51
abbrev pAl : List Str := ["_law_made", "_law_world_here"]
abbrev nAl : List Str := ["_law_made", "_law_world_here", "_law_told_here"]
theorem scAl : FnScope nAl pAl (defScope sAl) := ⟨rfl, rfl, rfl, by decide +kernel, rfl, by decide +kernel, by decide +kernel⟩
def spAl (K : PySem.W.Frag) : Sp := fun vs H Q _ => ∃ (x a : Addr) (ms : List Mn) (bs es rs js : List Str), vs = [.ref x, .ref a] ∧ ManuAt K H x (srtM ms) (srtW bs) (srtW es) ∧ WdAt H a ms bs es rs js ∧ Few ms bs es ∧ ∀ H', Same H H' → Q (.bl true) H'
section
variable {P : Program} {w : World} {K : PySem.W.Frag} {mg : Str → Option Value} {base : Heap} {f : Addr} {fd : FuncData}
theorem ok_al (F : FnP K "_law_all_right" sAl f fd) (C : Mc K) (GM : GotM P w K mg base 1 "manners" ["self"] (spMm K)) (GB : GotM P w K mg base 1 "beginnings" ["self"] (spMb K)) (GE : GotM P w K mg base 1 "ends" ["self"] (spMe K)) (GR : GotX P w K mg base 4 "rooms_of" ["manual"] (spRO K)) (GJ : GotX P w K mg base 4 "jobs_of" ["manual"] (spJO K))
    (GL : Got P w K mg base 1 "_law_rooms" ["_law_world_here"] spLR) (GK : Got P w K mg base 1 "_law_jobs" ["_law_world_here"] spLJ) (GX : Got P w K mg base 6 "_law_exact" pEx (spEx 5)) (mSo : mg "sorted" = none) : FnOk P w K mg base CX0 7 f fd pAl (spAl K) := by
  refine F.ok scAl (fun vs H Q E h => ?_) (fun cdv A outer s H vs Q E hr h => ?_)
  · obtain ⟨x, a, ms, bs, es, rs, js, rfl, _⟩ := h
    rfl
  · obtain ⟨x, a, ms, bs, es, rs, js, rfl, hm, hw, fw, q⟩ := h
    have hu := hr.units
    refine ⟨_, PSs.nox (pss_cons (ps_set (i := 2) scAl.nd rfl (Or.inl rfl) (pe_lst (pa_cons (pe_gotM0 GM C hr (pv 0)) (pa_cons (pe_gotM0 GB C hr (pv 0)) (pa_cons (pe_gotM0 GE C hr (pv 0)) (pa_cons (pe_gotF GR hr (pa_cons (pv 0) pa_nil)) (pa_cons (pe_gotF GJ hr (pa_cons (pv 0) pa_nil)) pa_nil)))))))
      (pss_one (ps_ret (pe_got GX hr (pa_cons (pv 2) (pa_cons (pe_lst (pa_cons (pe_callB (cr_sortedDp hu) (by rfl) mSo (by decide +kernel) (pa_cons (pe_ix ix_list (pv 1) pe_int (fun _ _ => rfl)) pa_nil))
        (pa_cons (pe_callB (cr_sortedDp hu) (by rfl) mSo (by decide +kernel) (pa_cons (pe_ix ix_list (pv 1) pe_int (fun _ _ => rfl)) pa_nil)) (pa_cons (pe_callB (cr_sortedDp hu) (by rfl) mSo (by decide +kernel) (pa_cons (pe_ix ix_list (pv 1) pe_int (fun _ _ => rfl)) pa_nil))
        (pa_cons (pe_got GL hr (pa_cons (pv 1) pa_nil)) (pa_cons (pe_got GK hr (pa_cons (pv 1) pa_nil)) pa_nil)))))) pa_nil)))))), ?_⟩
    obtain ⟨dx, fs, hx, n1, n2, n3⟩ := hm.plain
    have fs' := few_srt fw
    refine ⟨_, rfl, x, dx, fs, rfl, hx, n1, x, _, _, _, rfl, hm, fun p1 ys hp1 hy => ?_⟩
    obtain ⟨H1, e1, s1, g1⟩ : ∃ H1, H1 = upd H p1 (.lst ys) ∧ Same H H1 ∧ H1 p1 = some (.lst ys) := ⟨_, rfl, same_upd hp1, upd_same⟩
    rw [← e1]
    clear e1
    have hy := hy.same s1
    refine ⟨_, rfl, x, dx, fs, rfl, s1 _ _ hx, n2, x, _, _, _, rfl, hm.same s1, fun p2 hp2 => ?_⟩
    obtain ⟨H2, e2, s2, g2⟩ : ∃ H2, H2 = upd H1 p2 (.lst ((srtW bs).map V.str)) ∧ Same H1 H2 ∧ H2 p2 = some (.lst ((srtW bs).map V.str)) := ⟨_, rfl, same_upd hp2, upd_same⟩
    rw [← e2]
    clear e2
    have s02 := s1.trans s2
    refine ⟨_, rfl, x, dx, fs, rfl, s02 _ _ hx, n3, x, _, _, _, rfl, hm.same s02, fun p3 hp3 => ?_⟩
    obtain ⟨H3, e3, s3, g3⟩ : ∃ H3, H3 = upd H2 p3 (.lst ((srtW es).map V.str)) ∧ Same H2 H3 ∧ H3 p3 = some (.lst ((srtW es).map V.str)) := ⟨_, rfl, same_upd hp3, upd_same⟩
    rw [← e3]
    clear e3
    have s03 := s02.trans s3
    refine ⟨_, rfl, .ref x, rfl, .inr ⟨x, _, _, _, rfl, hm.same s03, fs', fun p4 H4 s4 hp4 g4 => ?_⟩⟩
    rw [rooms_srt] at g4
    have s04 := s03.trans s4
    refine ⟨_, rfl, .ref x, rfl, .inr ⟨x, _, _, _, rfl, hm.same s04, fs', fun p5 H5 s5 hp5 g5 => ?_⟩⟩
    rw [jobs_srt] at g5
    have s05 := s04.trans s5
    refine ⟨(by show 5 ≤ sizeLine; decide), fun pl hpl => ?_⟩
    obtain ⟨H6, e6, s6, g6⟩ : ∃ H6, H6 = upd H5 pl (.lst [.ref p1, .ref p2, .ref p3, .ref p4, .ref p5]) ∧ Same H5 H6 ∧ H6 pl = some (.lst [.ref p1, .ref p2, .ref p3, .ref p4, .ref p5]) := ⟨_, rfl, same_upd hpl, upd_same⟩
    rw [← e6]
    clear e6
    have s06 := s05.trans s6
    have hw6 := hw.same s06
    obtain ⟨lm, lb, le, lr, lj, ws, h1, h2, h3, h4, h5, h6, h7⟩ := id hw6
    refine ⟨_, rfl, _, rfl, a, _, _, .ref lm, rfl, rfl, SqL.of h1, atI_nat (j := 0) rfl, ?_⟩
    dsimp only [tNil]
    refine sortM (SqL.of h2) h3 fun q1 zs hq1 hz => ?_
    obtain ⟨H7, e7, s7, g7⟩ : ∃ H7, H7 = upd H6 q1 (.lst zs) ∧ Same H6 H7 ∧ H7 q1 = some (.lst zs) := ⟨_, rfl, same_upd hq1, upd_same⟩
    rw [← e7]
    clear e7
    refine ⟨_, rfl, a, _, _, .ref lb, rfl, rfl, SqL.of (s7 _ _ h1), atI_nat (j := 1) rfl, ?_⟩
    dsimp only [tNil]
    refine sortW (SqL.of (s7 _ _ h4)) fun q2 hq2 => ?_
    obtain ⟨H8, e8, s8, g8⟩ : ∃ H8, H8 = upd H7 q2 (.lst ((srtW bs).map V.str)) ∧ Same H7 H8 ∧ H8 q2 = some (.lst ((srtW bs).map V.str)) := ⟨_, rfl, same_upd hq2, upd_same⟩
    rw [← e8]
    clear e8
    have s68 := s7.trans s8
    refine ⟨_, rfl, a, _, _, .ref le, rfl, rfl, SqL.of (s68 _ _ h1), atI_nat (j := 2) rfl, ?_⟩
    dsimp only [tNil]
    refine sortW (SqL.of (s68 _ _ h5)) fun q3 hq3 => ?_
    obtain ⟨H9, e9, s9, g9⟩ : ∃ H9, H9 = upd H8 q3 (.lst ((srtW es).map V.str)) ∧ Same H8 H9 ∧ H9 q3 = some (.lst ((srtW es).map V.str)) := ⟨_, rfl, same_upd hq3, upd_same⟩
    rw [← e9]
    clear e9
    have s69 := s68.trans s9
    refine ⟨_, rfl, a, ms, bs, es, rs, js, rfl, hw6.same s69, fw, fun q4 Ha sa hq4 ga => ?_⟩
    have s6a := s69.trans sa
    refine ⟨_, rfl, a, ms, bs, es, rs, js, rfl, hw6.same s6a, fw.m, fun q5 Hb sb hq5 gb => ?_⟩
    have s6b := s6a.trans sb
    refine ⟨(by show 5 ≤ sizeLine; decide), fun qr hqr => ?_⟩
    obtain ⟨Hc, ec, sc, gc⟩ : ∃ Hc, Hc = upd Hb qr (.lst [.ref q1, .ref q2, .ref q3, .ref q4, .ref q5]) ∧ Same Hb Hc ∧ Hc qr = some (.lst [.ref q1, .ref q2, .ref q3, .ref q4, .ref q5]) := ⟨_, rfl, same_upd hqr, upd_same⟩
    rw [← ec]
    clear ec
    have s6c := s6b.trans sc
    have s1c := s2.trans (s3.trans (s4.trans (s5.trans (s6.trans s6c))))
    have lm1 : (srtM ms).length ≤ 900 := by have := fs'.m; omega
    have lb1 : (srtW bs).length ≤ 900 := by have := fs'.b; omega
    have le1 : (srtW es).length ≤ 900 := by have := fs'.e; omega
    have lr1 : (setW (roomsL ms bs es)).length ≤ 900 := by
      have a1 := setW_len (roomsL ms bs es)
      have a2 : (roomsL ms bs es).length = bs.length + es.length + 2 * ms.length := by
        unfold roomsL
        rw [List.length_append, List.length_append, List.length_flatMap]
        have : ∀ l : List Mn, (l.map fun m => ([m.r, m.s] : List Str).length).sum = 2 * l.length := fun l => by
          induction l with
          | nil => rfl
          | cons m l ih =>
            rw [List.map_cons, List.sum_cons, ih]
            show 2 + 2 * l.length = 2 * (l.length + 1)
            omega
        rw [this]
      have := fw.m
      have := fw.b
      have := fw.e
      omega
    have lj1 : (setW (jobsL ms)).length ≤ 900 := by
      have a1 := setW_len (jobsL ms)
      have a2 : (jobsL ms).length = ms.length := List.length_map _
      have := fw.m
      omega
    refine ⟨_, _, rfl, .lst (s6c _ _ g6) gc rfl (by show 5 ≤ 900; decide) fun i u v p r => ?_, fun Hd sd => q Hd (s06.trans (s6c.trans sd))⟩
    match i, p, r with
    | 0, p, r =>
      cases p
      cases r
      exact alk_mns (s1c _ _ g1) (s8.trans (s9.trans (sa.trans (sb.trans sc))) _ _ g7) (hy.same s1c) (hz.same (s7.trans (s8.trans (s9.trans (sa.trans (sb.trans sc)))))) lm1
    | 1, p, r =>
      cases p
      cases r
      exact alk_wds ((s3.trans (s4.trans (s5.trans (s6.trans s6c)))) _ _ g2) ((s9.trans (sa.trans (sb.trans sc))) _ _ g8) lb1
    | 2, p, r =>
      cases p
      cases r
      exact alk_wds ((s4.trans (s5.trans (s6.trans s6c))) _ _ g3) ((sa.trans (sb.trans sc)) _ _ g9) le1
    | 3, p, r =>
      cases p
      cases r
      exact alk_wds ((s5.trans (s6.trans s6c)) _ _ g4) ((sb.trans sc) _ _ ga) lr1
    | 4, p, r =>
      cases p
      cases r
      exact alk_wds ((s6.trans s6c) _ _ g5) (sc _ _ gb) lj1
    | n + 5, p, r => cases p
end
end L2.K03
set_option Elab.async false
set_option linter.all false
set_option maxRecDepth 100000
set_option maxHeartbeats 4000000
namespace L2.K03
open PySem PySem.Spec PyProof.Rows L2.EV L2
/-! ### Manual(..): a new manual, or what it raises -/
structure GotC (P : Program) (w : World) (K : PySem.W.Frag) (mg : Str → Option Value) (base : Heap) : Prop where
  ex : ∃ f fd, Mk K (aC K) f ∧ FnOk P w K mg base (L2.CX P w) 5 f fd pIn (spIn K) ∧ Binds K fd pIn [] ∧ mg "Manual" = some (.ref (aC K))
/-- .. where an error may come out -/
def tMakeS (C : Addr) (sp : Sp) (E : St → XK) (t : TA) : TE := fun σ H Q => t σ H fun vs H1 => ∀ x dx, H1 x = none → H1 dx = none → dx ≠ x → sp (.ref x :: vs) (upd (upd H1 dx (.own x)) x (.ins C dx [])) (fun v H2 => v = .non ∧ Q (.ref x) H2) (E σ)
section
variable {X : Cx} {W : WX} {e : Expr} {es : List Expr} {t : TA} {p pos : Pos}
theorem pe_man (G : GotC X.prog X.w X.K X.mg X.base) (hr : Room 6 X.A) (ha : PA X (e :: es) t) (hg : Gl X "Manual" := by rfl) (he : starEach (e :: es) X.env = (false, eval e X.env) :: starEach es X.env := by rfl) (hpl : (backTo pos (starEach es X.env)).any (·.1) = false := by rfl) :
    PE X (.Call (.Name "Manual" p) (e :: es) [] pos) (tMake (aC X.K) (spIn X.K) [] (fun _ _ _ => False) t) := by
  obtain ⟨f, fd, M, F, b, m⟩ := G.ex
  exact pe_make M F hr hg m b .nil passF ha (by decide) he hpl
theorem pe_manS (G : GotC X.prog X.w X.K X.mg X.base) (tk : Takes X W) (hr : Room 6 X.A) (ha : PA X (e :: es) t) (hg : Gl X "Manual" := by rfl) (he : starEach (e :: es) X.env = (false, eval e X.env) :: starEach es X.env := by rfl) (hpl : (backTo pos (starEach es X.env)).any (·.1) = false := by rfl) :
    PE X (.Call (.Name "Manual" p) (e :: es) [] pos) (tMakeS (aC X.K) (spIn X.K) (WE W) t) := by
  obtain ⟨f, fd, M, F, b, m⟩ := G.ex
  refine ⟨fun pins s σ H Q I h => ?_⟩
  refine wpAny_Call_Name_kw (ld_glob I hg m ?_ (by decide))
  refine PySem.W.callWith_K (h₀ := X.base) I.ok.mod.kin M.kp (thn (ha.run pos pins s σ H _ I h) fun us s1 ⟨vs, H1, I1, r, q⟩ => ⟨I1.kIn, ?_⟩) he hpl
  have hq := q (s1.heap.objs.size + 1) s1.heap.objs.size (I1.hok.fresh (Nat.le_succ _)) (I1.hok.fresh (Nat.le_refl _)) (Nat.ne_of_lt (Nat.lt_succ_self _))
  have I2 := Inv.made (C := aC X.K) I1
  have r2 : Vals (V.ref (s1.heap.objs.size + 1) :: vs) (Value.ref (s1.heap.objs.size + 1) :: us) := .cons rfl r
  have hl : (Value.ref (s1.heap.objs.size + 1) :: us).length = pIn.length := by rw [← r2.length, F.len _ _ _ _ hq]
  refine wpAny_call (make_map (f := f) I1.kIn M.makes M.init (beq_iff_eq.mp M.fn) (codeAny_mono (F.run _ X.stack _ _ ⟨Value.ref (s1.heap.objs.size + 1) :: us, []⟩ (Value.ref (s1.heap.objs.size + 1) :: us) _ _ (WE W σ) (hr.make (aC X.K) us [])
    (I2.env0.make (aC X.K) us []) (by have := b _ (Value.ref (s1.heap.objs.size + 1) :: us) I2.kIn (by simpa using hl); simpa using this) r2 hq) fun z s2 hz => ?_))
  cases z with
  | error er => exact passAt tk σ pins _ _ er s2 I2 hz
  | ok fl =>
    cases fl with
    | ret u =>
      obtain ⟨v, H3, I3, rv, ev, q3⟩ := I2.after hz
      subst ev
      exact ⟨rv, ⟨V.ref (s1.heap.objs.size + 1), H3, I3, rfl, q3⟩⟩
    | next => exact False.elim hz
    | brk => exact False.elim hz
    | cont => exact False.elim hz
end
/-! ### what good lists say -/
theorem wdF_word {K : PySem.W.Frag} {H : Hp} {x : Str} (h : Word x) : WdF K H (.str x) true := by
  rw [← h.form]
  exact .str (by have := h.1.2; rw [sizeLine_eq]; omega)
theorem eff_good {K : PySem.W.Frag} {H : Hp} {t : Addr} {e : Ef} (h : EfAt H t e) (o : e.ok) : EffF K H (.ref t) true := by
  cases e with
  | coins c =>
    have oc : c ≤ 3 := o
    have h' : H t = some (.tup (.str "coins" :: [.int (c : Int)])) := h
    have := EffF.some (K := K) (rs := [true]) h' (by show behind "coins" = some 1; decide +kernel) rfl fun i x r a b => by
      match i, a, b with
      | 0, a, b =>
        cases a
        cases b
        have e : (decide (0 ≤ (c : Int)) && decide ((c : Int) ≤ 3)) = true := by simp; omega
        rw [← e]
        exact .int _
    exact this
  | fill c d =>
    obtain ⟨oc, od⟩ := (show c ≤ 3 ∧ d ≤ 3 from o)
    have h' : H t = some (.tup (.str "fill" :: [.int (c : Int), .int (d : Int)])) := h
    have := EffF.some (K := K) (rs := [true, true]) h' (by show behind "fill" = some 2; decide +kernel) rfl fun i x r a b => by
      match i, a, b with
      | 0, a, b =>
        cases a
        cases b
        have e : (decide (0 ≤ (c : Int)) && decide ((c : Int) ≤ 3)) = true := by simp; omega
        rw [← e]
        exact .int _
      | 1, a, b =>
        cases a
        cases b
        have e : (decide (0 ≤ (d : Int)) && decide ((d : Int) ≤ 3)) = true := by simp; omega
        rw [← e]
        exact .int _
    exact this
theorem man_good {K : PySem.W.Frag} {H : Hp} {v : V} {m : Mn} (h : ManAt H v m) (o : m.Ok) : ManL K H v true := fun H' s => by
  obtain ⟨a, t, rfl, h1, h2⟩ := h.same s
  exact ManF.some (rs := [true, true, true]) h1 (eff_good h2 o.e) ⟨rfl, fun i x r p q => by
    match i, p, q with
    | 0, p, q => cases p; cases q; exact wdF_word o.r
    | 1, p, q => cases p; cases q; exact wdF_word o.j
    | 2, p, q => cases p; cases q; exact wdF_word o.s⟩
def kEf : Ef → NestedKey
  | .coins c => .tup [.text "coins", .num (c : Int)]
  | .fill a b => .tup [.text "fill", .num (a : Int), .num (b : Int)]
def kMn (m : Mn) : NestedKey := .tup [.text m.r, .text m.j, .text m.s, kEf m.e]
theorem kEf_inj {e d : Ef} (h : kEf e = kEf d) : e = d := by
  cases e <;> cases d <;> simp [kEf] at h ⊢ <;> omega
theorem kMn_inj {m n : Mn} (h : kMn m = kMn n) : m = n := by
  obtain ⟨r, j, s, e⟩ := m
  obtain ⟨r', j', s', e'⟩ := n
  simp only [kMn, NestedKey.tup.injEq, List.cons.injEq, NestedKey.text.injEq] at h
  obtain ⟨h1, h2, h3, h4, _⟩ := h
  rw [h1, h2, h3, kEf_inj h4]
theorem nk_mn {H : Hp} {v : V} {m : Mn} (h : ManAt H v m) : (∃ a, v = .ref a) ∧ NK H v (kMn m) ∧ (kMn m).depth ≤ 8 := by
  obtain ⟨a, t, rfl, h1, h2⟩ := h
  refine ⟨⟨a, rfl⟩, .tup h1 (.cons (.str _) (.cons (.str _) (.cons (.str _) (.cons ?_ .nil)))), ?_⟩
  · cases e : m.e with
    | coins c =>
      rw [e] at h2
      exact .tup h2 (.cons (.str _) (.cons (.int _) .nil))
    | fill c d =>
      rw [e] at h2
      exact .tup h2 (.cons (.str _) (.cons (.int _) (.cons (.int _) .nil)))
  · cases e : m.e <;> simp [kMn, kEf, e, NestedKey.depth, NestedKey.depthAll]
theorem mans_form {K : PySem.W.Frag} {H : Hp} {a : Addr} {vs : List V} {ms : List Mn} (ha : H a = some (.lst vs)) (h : Mans H vs ms) (o : ∀ m ∈ ms, m.Ok) (few : ms.length < 64) (nd : ms.Nodup) : MsL K H (.ref a) true := fun H' s => by
  have h' := h.same s
  have at_ : ∀ {i : Nat} {v : V}, vs[i]? = some v → ∃ m, ms[i]? = some m ∧ m ∈ ms := fun {i v} q => by
    have li := (List.getElem?_eq_some_iff.mp q).1
    rw [h.1] at li
    exact ⟨_, List.getElem?_eq_getElem li, List.getElem_mem li⟩
  have e : decide (ms.map kMn).Nodup = true := decide_eq_true (List.Pairwise.map kMn (fun a b ne e => ne (kMn_inj e)) nd)
  rw [← e]
  refine MannersF.good (s _ _ ha) (by rw [h.1]; exact few) (fun v hv => ?_) ⟨by rw [List.length_map]; exact h.1.symm, fun i y k p q => ?_⟩
  · obtain ⟨i, hi⟩ := List.getElem?_of_mem hv
    obtain ⟨m, em, mm⟩ := at_ hi
    exact man_good (h'.2 i v m hi em) (o m mm)
  · rw [List.getElem?_map] at q
    obtain ⟨m, em, _⟩ := at_ p
    rw [em] at q
    cases q
    exact nk_mn (h'.2 i y m p em)
theorem rooms_form {K : PySem.W.Frag} {H : Hp} {a : Addr} {ws : List Str} (ha : H a = some (.lst (ws.map V.str))) (o : ∀ x ∈ ws, Word x) (few : ws.length ≤ 900) (nd : ws.Nodup) : RmL K H (.ref a) true := fun H' s => by
  rw [← decide_eq_true nd]
  exact .yes (s _ _ ha) (fun x hx => ⟨by have := (o x hx).1.2; rw [sizeLine_eq]; omega, (o x hx).form⟩) few
/-- Manual(l, b, e) of good lists; it stands whatever becomes of the lists that were there -/
theorem madeF {K : PySem.W.Frag} {H : Hp} {E : XK} {la lb le : Addr} {ws : List V} {ms : List Mn} {bs es : List Str} {x dx : Addr} {Q : VK} (h1 : H la = some (.lst ws)) (h2 : Mans H ws ms) (h3 : H lb = some (.lst (bs.map V.str))) (h4 : H le = some (.lst (es.map V.str))) (o : MOk ms bs es) (fw : ms.length < 64) (fb : bs.length ≤ 900) (fe : es.length ≤ 900)
    (n1 : ms.Nodup) (n2 : bs.Nodup) (n3 : es.Nodup) (hx : H x = none) (hd : H dx = none) (ne : dx ≠ x) (q : ∀ H', ManuFr K H H' x (srtM ms) (srtW bs) (srtW es) → Same H H' → Q .non H') : spIn K [.ref x, .ref la, .ref lb, .ref le] (upd (upd H dx (.own x)) x (.ins (aC K) dx [])) Q E := by
  have s : Same H (upd (upd H dx (.own x)) x (.ins (aC K) dx [])) := fun c u e => by
    rw [upd_ne (ne_of_none e hx), upd_ne (ne_of_none e hd)]
    exact e
  refine ⟨x, dx, _, _, _, rfl, upd_same, .inr ⟨mans_form (s _ _ h1) (h2.same s) o.m fw n1, .inr ⟨rooms_form (s _ _ h3) o.b fb n2, .inr ⟨rooms_form (s _ _ h4) o.e fe n3, la, lb, le, ws, ms, bs, es, rfl, s _ _ h1, h2.same s, rfl, s _ _ h3, rfl, s _ _ h4, fun H' hm k => q H' (fun G hG => hm G fun c u e nl => hG c u e fun us z => nl us (s _ _ z)) fun c u e => ?_⟩⟩⟩⟩
  exact k c u (ne_of_none e hx) (s _ _ e)
/-- Manual(l, b, e) of good lists -/
theorem made {K : PySem.W.Frag} {H : Hp} {E : XK} {la lb le : Addr} {ws : List V} {ms : List Mn} {bs es : List Str} {x dx : Addr} {Q : VK} (h1 : H la = some (.lst ws)) (h2 : Mans H ws ms) (h3 : H lb = some (.lst (bs.map V.str))) (h4 : H le = some (.lst (es.map V.str))) (o : MOk ms bs es) (fw : ms.length < 64) (fb : bs.length ≤ 900) (fe : es.length ≤ 900)
    (n1 : ms.Nodup) (n2 : bs.Nodup) (n3 : es.Nodup) (hx : H x = none) (hd : H dx = none) (ne : dx ≠ x) (q : ∀ H', ManuAt K H' x (srtM ms) (srtW bs) (srtW es) → Same H H' → Q .non H') : spIn K [.ref x, .ref la, .ref lb, .ref le] (upd (upd H dx (.own x)) x (.ins (aC K) dx [])) Q E :=
  madeF h1 h2 h3 h4 o fw fb fe n1 n2 n3 hx hd ne fun H' hm s => q H' hm.at s
end L2.K03
set_option Elab.async false
set_option linter.all false
set_option maxRecDepth 100000
set_option maxHeartbeats 4000000
namespace L2.K03
open PySem PySem.Spec PyProof.Rows L2.EV L2
/-! ### how a call ends by an error -/
theorem pe_gref {X : Cx} {x : Str} {a : Addr} {pos : Pos} (hm : X.mg x = some (.ref a)) (hg : Gl X x := by rfl) (hd : (x == ("__debug__" : Str)) = false := by decide) : PE X (.Name x pos) (tC (.ref a)) := pe_glob hg hm (show RelV (.ref a) (.ref a) from rfl) hd
abbrev aP (K : PySem.W.Frag) : Addr := He.ga K "PurseError"
/-- the five classes, by the order of the suites -/
def c5 (K : PySem.W.Frag) : Nat → Addr
  | 0 => aMn K
  | 1 => aRm K
  | 2 => aMu K
  | 3 => aRo K
  | _ => aWd K
structure Ty (K : PySem.W.Frag) (mg : Str → Option Value) : Prop where
  mP : mg "PurseError" = some (.ref (aP K))
  as : ∀ i, i < 5 → Asks K (c5 K i)
  ex : ∀ i j, i < 5 → j < 5 → PySem.W.exmOne K (.ref (c5 K i)) (.ref (c5 K j)) = some (decide (i = j))
  kit : ∀ i j, i < 5 → j < 5 → PySem.W.kitOne K (.ref (c5 K i)) (.ref (c5 K j)) = some (decide (i = j))
  up : ∀ i, i < 5 → PySem.W.kitOne K (.ref (c5 K i)) (.ref (aP K)) = some true
theorem Ty.two {K : PySem.W.Frag} {mg : Str → Option Value} (T : Ty K mg) {i j k : Nat} (hi : i < 5) (hj : j < 5) (hk : k < 5) (n1 : i ≠ j) (n2 : i ≠ k) : PySem.W.kitAny K (.ref (c5 K i)) [.ref (c5 K j), .ref (c5 K k)] = some false := by
  refine kitAny_cons (T.kit i j hi hj) (fun _ => ?_) (fun z => by rw [decide_eq_false n1] at z; cases z)
  refine kitAny_cons (T.kit i k hi hk) (fun _ => ?_) (fun z => by rw [decide_eq_false n2] at z; cases z)
  exact kitAny_nil
abbrev sTd : Stmt := top 49
abbrev pTd : List Str := ["_law_way", "_law_things"]
abbrev nTd : List Str := ["_law_way", "_law_things", "_law_made", "e"]
theorem scTd : FnScope nTd pTd (defScope sTd) := ⟨rfl, rfl, rfl, by decide +kernel, rfl, by decide +kernel, by decide +kernel⟩
def Res (H : Hp) (Q : VK) (z : Str) (v : V) : Prop := ∀ p H', Same H H' → H' p = some (.tup [.str z, v, .bl false, .bl true]) → Q (.ref p) H'
def tiTd (K : PySem.W.Frag) (i : Int) : TE := tOp (rIxL K) (tVar 1) (tC (.int i))
abbrev tWay (z : Str) : TT := tTest (tOp rEq (tVar 0) (tC (.str z)))
abbrev tTold (t : TE) : TS := tRet (tTup (tCons (tC (.str "told")) (tCons t tNil)))
abbrev t3Td (K : PySem.W.Frag) : TA := tCons (tiTd K 0) (tCons (tiTd K 1) (tCons (tiTd K 2) tNil))
def tbTd (K : PySem.W.Frag) (W : WX) : TS :=
  tSeq (tIfS (tWay "made") (tSeq (tAsg (tMakeS (aC K) (spIn K) (WE W) (t3Td K)) (gName 2)) (tTold (tLst (tCons (tMeth (aC K) "manners" (spMm K) [] E0 (tVar 2) tNil) (tCons (tMeth (aC K) "beginnings" (spMb K) [] E0 (tVar 2) tNil) (tCons (tMeth (aC K) "ends" (spMe K) [] E0 (tVar 2) tNil) tNil)))))) tNext)
    (tSeq (tIfS (tWay "at") (tTold (tCallS (spMA K) (WE W) (t3Td K))) tNext)
      (tTold (tIf (tWay "rooms") (tCallS (spRO K) (WE W) (tCons (tiTd K 0) tNil)) (tCallS (spJO K) (WE W) (tCons (tiTd K 0) tNil)))))
def suT (K : PySem.W.Frag) (z : Str) (C D1 D2 : Addr) : Suite := fun a cls d => tRet (tTup (tCons (tC (.str z)) (tCons (tXf a cls d C "value" (tVar 3)) (tCons (tCB (rIsS K a cls d) (tCons (tVar 3) (tCons (tTup (tCons (tC (.ref D1)) (tCons (tC (.ref D2)) tNil))) tNil))) (tCons (tCB (rIsS K a cls d) (tCons (tVar 3) (tCons (tC (.ref (aP K))) tNil))) tNil)))))
def w5 : Nat → Str
  | 0 => "manners"
  | 1 => "rooms"
  | 2 => "manual"
  | 3 => "room"
  | _ => "word"
/-- the two classes that a suite asks besides -/
def o5 : Nat → Nat × Nat
  | 0 => (1, 2)
  | 1 => (0, 3)
  | 2 => (0, 3)
  | 3 => (4, 1)
  | _ => (3, 2)
def su5 (K : PySem.W.Frag) (i : Nat) : Value × Suite := (.ref (c5 K i), suT K (w5 i) (c5 K i) (c5 K (o5 i).1) (c5 K (o5 i).2))
def qsT (K : PySem.W.Frag) : List (Value × Suite) := [su5 K 0, su5 K 1, su5 K 2, su5 K 3, su5 K 4]
def Bad (K : PySem.W.Frag) (H : Hp) (Q : VK) (z : Str) (x y u : V) : Prop :=
  (z = "made" ∧ ((MsL K H x false ∧ Res H Q "manners" x) ∨ (MsL K H x true ∧ ((RmL K H y false ∧ Res H Q "rooms" y) ∨ (RmL K H y true ∧ RmL K H u false ∧ Res H Q "rooms" u))))) ∨
  (z = "at" ∧ ((NoMan K H x ∧ Res H Q "manual" x) ∨ ∃ a ms bs es, x = .ref a ∧ ManuAt K H a ms bs es ∧ Few ms bs es ∧ ((WdF K H y false ∧ Res H Q "room" y) ∨ ∃ s, y = .str s ∧ s.length ≤ sizeLine ∧ wordB s = true ∧ ((s ∉ roomsL ms bs es ∧ Res H Q "room" y) ∨ (s ∈ roomsL ms bs es ∧ WdF K H u false ∧ Res H Q "word" u))))) ∨
  ((z = "rooms" ∨ z = "jobs") ∧ NoMan K H x ∧ Res H Q "manual" x)
def spTd (K : PySem.W.Frag) : Sp := fun vs H Q _ => ∃ (z : Str) (l : Addr) (x y u : V), vs = [.str z, .ref l] ∧ H l = some (.lst [x, y, u]) ∧ Bad K H Q z x y u
section
variable {P : Program} {w : World} {K : PySem.W.Frag} {mg : Str → Option Value} {base : Heap} {f : Addr} {fd : FuncData}
theorem ok_td (F : FnP K "_law_told" sTd f fd) (T : Tx P w K mg base) (Y : Ty K mg) (C : Mc K) (G : GotC P w K mg base) (GA : GotX P w K mg base 4 "manners_at" pMA (spMA K)) (GR : GotX P w K mg base 4 "rooms_of" ["manual"] (spRO K)) (GJ : GotX P w K mg base 4 "jobs_of" ["manual"] (spJO K))
    (GM : GotM P w K mg base 1 "manners" ["self"] (spMm K)) (GB : GotM P w K mg base 1 "beginnings" ["self"] (spMb K)) (GE : GotM P w K mg base 1 "ends" ["self"] (spMe K)) (mIs : mg "isinstance" = none) : FnOk P w K mg base CX0 7 f fd pTd (spTd K) := by
  obtain ⟨_, _, E0', _⟩ := T.mn.ex
  obtain ⟨_, _, E1, _⟩ := T.rm.ex
  obtain ⟨_, _, E2, _⟩ := T.mu.ex
  obtain ⟨_, _, E3, _⟩ := T.ro.ex
  obtain ⟨_, _, E4, _⟩ := T.wd.ex
  refine F.ok scTd (fun vs H Q E h => ?_) (fun cdv A outer s H vs Q E hr h => ?_)
  · obtain ⟨z, l, x, y, u, rfl, _⟩ := h
    rfl
  · obtain ⟨z, l, x, y, u, rfl, hl, h⟩ := h
    refine ⟨_, pss_one (ps_try_named (i := 3) (tb := tbTd K) (qs := qsT K) (Wout := fun _ _ _ _ => False) rfl rfl scTd.nd rfl rfl takes_none5 (fun W pn xe tk _ =>
        pss_cons (ps_if (pt_cmpR op_eq (pv 0) pe_str (nomark _)) (pss_cons (ps_set (i := 2) scTd.nd rfl (Or.inl rfl) (pe_manS G tk hr (pa_cons (pe_ix ix_list (pv 1) pe_int (fun _ _ => rfl)) (pa_cons (pe_ix ix_list (pv 1) pe_int (fun _ _ => rfl)) (pa_cons (pe_ix ix_list (pv 1) pe_int (fun _ _ => rfl)) pa_nil)))))
          (pss_one (ps_ret (pe_tup (pa_cons pe_str (pa_cons (pe_lst (pa_cons (pe_gotM0 GM C hr (pv 2)) (pa_cons (pe_gotM0 GB C hr (pv 2)) (pa_cons (pe_gotM0 GE C hr (pv 2)) pa_nil)))) pa_nil)))))) pss_nil)
        (pss_cons (ps_if (pt_cmpR op_eq (pv 0) pe_str (nomark _)) (pss_one (ps_ret (pe_tup (pa_cons pe_str (pa_cons (pe_gotX GA tk hr (pa_cons (pe_ix ix_list (pv 1) pe_int (fun _ _ => rfl)) (pa_cons (pe_ix ix_list (pv 1) pe_int (fun _ _ => rfl)) (pa_cons (pe_ix ix_list (pv 1) pe_int (fun _ _ => rfl)) pa_nil)))) pa_nil))))) pss_nil)
        (pss_one (ps_ret (pe_tup (pa_cons pe_str (pa_cons (pe_ifExp (pt_cmpR op_eq (pv 0) pe_str (nomark _)) (pe_gotX GR tk hr (pa_cons (pe_ix ix_list (pv 1) pe_int (fun _ _ => rfl)) pa_nil)) (pe_gotX GJ tk hr (pa_cons (pe_ix ix_list (pv 1) pe_int (fun _ _ => rfl)) pa_nil))) pa_nil)))))))
      (.cons ⟨rfl, by decide, Or.inl T.mn.mgx⟩ (fun a oe cls d pn hz hf => pss_one (ps_ret (pe_tup (pa_cons pe_str (pa_cons (pe_xf E0'.xf E0'.noV hz hf (pv 3)) (pa_cons (pe_callB (call_isS hz hf) (by rfl) mIs (by decide +kernel) (pa_cons (pv 3) (pa_cons (pe_tup (pa_cons (pe_gref T.rm.mgx) (pa_cons (pe_gref T.mu.mgx) pa_nil))) pa_nil)))
          (pa_cons (pe_callB (call_isS hz hf) (by rfl) mIs (by decide +kernel) (pa_cons (pv 3) (pa_cons (pe_gref Y.mP) pa_nil))) pa_nil)))))))
      (.cons ⟨rfl, by decide, Or.inl T.rm.mgx⟩ (fun a oe cls d pn hz hf => pss_one (ps_ret (pe_tup (pa_cons pe_str (pa_cons (pe_xf E1.xf E1.noV hz hf (pv 3)) (pa_cons (pe_callB (call_isS hz hf) (by rfl) mIs (by decide +kernel) (pa_cons (pv 3) (pa_cons (pe_tup (pa_cons (pe_gref T.mn.mgx) (pa_cons (pe_gref T.ro.mgx) pa_nil))) pa_nil)))
          (pa_cons (pe_callB (call_isS hz hf) (by rfl) mIs (by decide +kernel) (pa_cons (pv 3) (pa_cons (pe_gref Y.mP) pa_nil))) pa_nil)))))))
      (.cons ⟨rfl, by decide, Or.inl T.mu.mgx⟩ (fun a oe cls d pn hz hf => pss_one (ps_ret (pe_tup (pa_cons pe_str (pa_cons (pe_xf E2.xf E2.noV hz hf (pv 3)) (pa_cons (pe_callB (call_isS hz hf) (by rfl) mIs (by decide +kernel) (pa_cons (pv 3) (pa_cons (pe_tup (pa_cons (pe_gref T.mn.mgx) (pa_cons (pe_gref T.ro.mgx) pa_nil))) pa_nil)))
          (pa_cons (pe_callB (call_isS hz hf) (by rfl) mIs (by decide +kernel) (pa_cons (pv 3) (pa_cons (pe_gref Y.mP) pa_nil))) pa_nil)))))))
      (.cons ⟨rfl, by decide, Or.inl T.ro.mgx⟩ (fun a oe cls d pn hz hf => pss_one (ps_ret (pe_tup (pa_cons pe_str (pa_cons (pe_xf E3.xf E3.noV hz hf (pv 3)) (pa_cons (pe_callB (call_isS hz hf) (by rfl) mIs (by decide +kernel) (pa_cons (pv 3) (pa_cons (pe_tup (pa_cons (pe_gref T.wd.mgx) (pa_cons (pe_gref T.rm.mgx) pa_nil))) pa_nil)))
          (pa_cons (pe_callB (call_isS hz hf) (by rfl) mIs (by decide +kernel) (pa_cons (pv 3) (pa_cons (pe_gref Y.mP) pa_nil))) pa_nil)))))))
      (.cons ⟨rfl, by decide, Or.inl T.wd.mgx⟩ (fun a oe cls d pn hz hf => pss_one (ps_ret (pe_tup (pa_cons pe_str (pa_cons (pe_xf E4.xf E4.noV hz hf (pv 3)) (pa_cons (pe_callB (call_isS hz hf) (by rfl) mIs (by decide +kernel) (pa_cons (pv 3) (pa_cons (pe_tup (pa_cons (pe_gref T.ro.mgx) (pa_cons (pe_gref T.mu.mgx) pa_nil))) pa_nil)))
          (pa_cons (pe_callB (call_isS hz hf) (by rfl) mIs (by decide +kernel) (pa_cons (pv 3) (pa_cons (pe_gref Y.mP) pa_nil))) pa_nil))))))) .nil)))))), ?_⟩
    have lk : ∀ v : V, List.lookup ("value" : Str) [(("value" : Str), v)] = some v := fun v => by simp [List.lookup]
    have lt5 : ∀ i, i < 5 → (o5 i).1 < 5 ∧ (o5 i).2 < 5 ∧ i ≠ (o5 i).1 ∧ i ≠ (o5 i).2 := fun i hi => match i, hi with
      | 0, _ => by decide
      | 1, _ => by decide
      | 2, _ => by decide
      | 3, _ => by decide
      | 4, _ => by decide
    have fin : ∀ (i : Nat) (hi : i < 5) (v : V) (H1 H2 : Hp) (d a : Addr) (D' : Ends), D'.rt = Q → Same H H1 → Same H1 H2 → Res H Q (w5 i) v → H2 d = some (.xd [(("value" : Str), v)]) → suT K (w5 i) (c5 K i) (c5 K (o5 i).1) (c5 K (o5 i).2) a (.ref (c5 K i)) (some d) D' [some (.str z), some (.ref l), none, some (.ref a)] H2 := by
      intro i hi v H1 H2 d a D' hD s1 s2 res hd
      obtain ⟨h1, h2, h3, h4⟩ := lt5 i hi
      refine ⟨_, rfl, rfl, rfl, d, _, v, rfl, hd, lk v, _, rfl, (by show 2 ≤ sizeLine; decide), fun tp htp => ?_⟩
      have s3 := same_upd (o := .tup [.ref (c5 K (o5 i).1), .ref (c5 K (o5 i).2)]) htp
      refine ⟨c5 K i, d, _, .ref tp, false, rfl, rfl, rfl, s3 _ _ hd, Y.as i hi, .inr ⟨tp, _, _, rfl, upd_same, .cons (.own _) (.cons (.own _) .nil), Y.two hi h1 h2 h3 h4⟩, ?_⟩
      refine ⟨_, rfl, c5 K i, d, _, .ref (aP K), true, rfl, rfl, rfl, s3 _ _ hd, Y.as i hi, .inl ⟨_, .own _, Y.up i hi⟩, (by show 4 ≤ sizeLine; decide), fun p hp => ?_⟩
      rw [hD]
      exact res p _ (s1.trans (s2.trans (s3.trans (same_upd hp)))) upd_same
    have su : ∀ (i : Nat) (hi : i < 5) (v : V) (H1 : Hp), Same H H1 → Res H Q (w5 i) v → Out H1 (WE (wNmd K 3 (fun _ _ _ _ => False) { nx := fun _ H' => Q .non H', rt := Q } (qsT K)) [some (.str z), some (.ref l), none, none]) (c5 K i) v := by
      intro i hi v H1 s1 res d H2 s2 hd
      have no : ∀ j, j < 5 → i ≠ j → PySem.W.exmOne K (.ref (c5 K i)) (.ref (c5 K j)) = some false := fun j hj n => by
        rw [Y.ex i j hi hj, decide_eq_false n]
      have yes : PySem.W.exmOne K (.ref (c5 K i)) (.ref (c5 K i)) = some true := by
        rw [Y.ex i i hi hi, decide_eq_true rfl]
      match i, hi with
      | 0, hi =>
        exact ⟨true, yes, by rw [if_pos rfl]; exact fun a ha => fin 0 hi v H1 H2 d a _ rfl s1 s2 res hd⟩
      | 1, hi =>
        exact ⟨false, no 0 (by decide) (by decide), by rw [if_neg Bool.false_ne_true]; exact ⟨true, yes, by rw [if_pos rfl]; exact fun a ha => fin 1 hi v H1 H2 d a _ rfl s1 s2 res hd⟩⟩
      | 2, hi =>
        exact ⟨false, no 0 (by decide) (by decide), by rw [if_neg Bool.false_ne_true]; exact ⟨false, no 1 (by decide) (by decide), by rw [if_neg Bool.false_ne_true]; exact ⟨true, yes, by rw [if_pos rfl]; exact fun a ha => fin 2 hi v H1 H2 d a _ rfl s1 s2 res hd⟩⟩⟩
      | 3, hi =>
        exact ⟨false, no 0 (by decide) (by decide), by rw [if_neg Bool.false_ne_true]; exact ⟨false, no 1 (by decide) (by decide), by rw [if_neg Bool.false_ne_true]; exact ⟨false, no 2 (by decide) (by decide), by rw [if_neg Bool.false_ne_true]; exact ⟨true, yes, by rw [if_pos rfl]; exact fun a ha => fin 3 hi v H1 H2 d a _ rfl s1 s2 res hd⟩⟩⟩⟩
      | 4, hi =>
        exact ⟨false, no 0 (by decide) (by decide), by rw [if_neg Bool.false_ne_true]; exact ⟨false, no 1 (by decide) (by decide), by rw [if_neg Bool.false_ne_true]; exact ⟨false, no 2 (by decide) (by decide), by rw [if_neg Bool.false_ne_true]; exact ⟨false, no 3 (by decide) (by decide), by rw [if_neg Bool.false_ne_true]; exact ⟨true, yes, by rw [if_pos rfl]; exact fun a ha => fin 4 hi v H1 H2 d a _ rfl s1 s2 res hd⟩⟩⟩⟩⟩
    have sr : Same H H := fun _ _ e => e
    have S : SqL K H l [x, y, u] := SqL.of hl
    have a0 : atI [x, y, u] 0 = some x := atI_nat (j := 0) rfl
    have a1 : atI [x, y, u] 1 = some y := atI_nat (j := 1) rfl
    have a2 : atI [x, y, u] 2 = some u := atI_nat (j := 2) rfl
    rcases h with ⟨rfl, h⟩ | ⟨rfl, h⟩ | ⟨hz, nm, res⟩
    · refine ⟨_, rfl, rfl, _, rfl, iteT ?_⟩
      refine ⟨_, rfl, l, _, _, _, rfl, rfl, S, a0, _, rfl, l, _, _, _, rfl, rfl, S, a1, _, rfl, l, _, _, _, rfl, rfl, S, a2, fun b dx hb hdx ne => ?_⟩
      have s0 : Same H (upd (upd H dx (.own b)) b (.ins (aC K) dx [])) := fun c o e => by
        rw [upd_ne (ne_of_none e hb), upd_ne (ne_of_none e hdx)]
        exact e
      have after : ∀ {v : V} {r : Bool}, MsL K H v r → MsL K (upd (upd H dx (.own b)) b (.ins (aC K) dx [])) v r := fun h H' s => h H' (s0.trans s)
      have after' : ∀ {v : V} {r : Bool}, RmL K H v r → RmL K (upd (upd H dx (.own b)) b (.ins (aC K) dx [])) v r := fun h H' s => h H' (s0.trans s)
      refine ⟨b, dx, x, y, u, rfl, upd_same, ?_⟩
      rcases h with ⟨h, res⟩ | ⟨h, ⟨h2, res⟩ | ⟨h2, h3, res⟩⟩
      · exact .inl ⟨after h, su 0 (by decide) x _ s0 res⟩
      · exact .inr ⟨after h, .inl ⟨after' h2, su 1 (by decide) y _ s0 res⟩⟩
      · exact .inr ⟨after h, .inr ⟨after' h2, .inl ⟨after' h3, su 1 (by decide) u _ s0 res⟩⟩⟩
    · refine ⟨_, rfl, rfl, _, rfl, iteF ?_⟩
      refine ⟨_, rfl, rfl, _, rfl, iteT ?_⟩
      refine ⟨_, rfl, l, _, _, _, rfl, rfl, S, a0, _, rfl, l, _, _, _, rfl, rfl, S, a1, _, rfl, l, _, _, _, rfl, rfl, S, a2, x, y, u, rfl, ?_⟩
      rcases h with ⟨h, res⟩ | ⟨a, ms, bs, es, rfl, hm, fw, h⟩
      · exact .inl ⟨h, su 2 (by decide) x _ sr res⟩
      · refine .inr ⟨a, ms, bs, es, rfl, hm, fw, ?_⟩
        rcases h with ⟨h, res⟩ | ⟨s', rfl, ls, ws, h⟩
        · exact .inl ⟨h, su 3 (by decide) y _ sr res⟩
        · refine .inr ⟨s', rfl, ls, ws, ?_⟩
          rcases h with ⟨h, res⟩ | ⟨h, h2, res⟩
          · exact .inl ⟨h, su 3 (by decide) _ _ sr res⟩
          · exact .inr ⟨h, .inl ⟨h2, su 4 (by decide) u _ sr res⟩⟩
    · rcases hz with rfl | rfl
      · refine ⟨_, rfl, rfl, _, rfl, iteF ?_⟩
        refine ⟨_, rfl, rfl, _, rfl, iteF ?_⟩
        refine ⟨_, rfl, rfl, _, rfl, iteT ?_⟩
        exact ⟨_, rfl, l, _, _, _, rfl, rfl, S, a0, x, rfl, .inl ⟨nm, su 2 (by decide) x _ sr res⟩⟩
      · refine ⟨_, rfl, rfl, _, rfl, iteF ?_⟩
        refine ⟨_, rfl, rfl, _, rfl, iteF ?_⟩
        refine ⟨_, rfl, rfl, _, rfl, iteF ?_⟩
        exact ⟨_, rfl, l, _, _, _, rfl, rfl, S, a0, x, rfl, .inl ⟨nm, su 2 (by decide) x _ sr res⟩⟩
end
end L2.K03
set_option Elab.async false
set_option linter.all false
set_option maxRecDepth 100000
set_option maxHeartbeats 4000000
namespace L2.K03
open PySem PySem.Spec PyProof.Rows L2.EV
/-! ### alike to the depth n -/
inductive Alm (K : PySem.W.Frag) (H : Hp) : Nat → V → V → Prop
  | flat {n : Nat} {v : V} : flatV v = true → Alm K H (n + 1) v v
  | lst {n : Nat} {a b : Addr} {xs ys : List V} : H a = some (.lst xs) → H b = some (.lst ys) → xs.length = ys.length → xs.length ≤ 900 → (∀ (i : Nat) (x y : V), xs[i]? = some x → ys[i]? = some y → Alm K H n x y) → Alm K H (n + 1) (.ref a) (.ref b)
  | dct {n : Nat} {a b : Addr} {kvs : List (Key × V)} : H a = some (.dK kvs) → H b = some (.dK kvs) → kvs.length ≤ 900 → (∀ p ∈ kvs, flatV p.2 = true) → Alm K H (n + 3) (.ref a) (.ref b)
  | man {n : Nat} {x : Addr} {ms : List Mn} {bs es : List Str} : ManuAt K H x ms bs es → MOk ms bs es → Alm K H (n + 1) (.ref x) (.ref x)
  | tup {n : Nat} {a b : Addr} {xs ys : List V} : H a = some (.tup xs) → H b = some (.tup ys) → xs.length = ys.length → xs.length ≤ 900 → (∀ (i : Nat) (x y : V), xs[i]? = some x → ys[i]? = some y → Alm K H n x y) → Alm K H (n + 1) (.ref a) (.ref b)
theorem Alm.same {K : PySem.W.Frag} {H H' : Hp} (s : Same H H') : ∀ {n : Nat} {x y : V}, Alm K H n x y → Alm K H' n x y := fun {n x y} h => by
  induction h with
  | flat h => exact .flat h
  | lst h1 h2 h3 h4 _ ih => exact .lst (s _ _ h1) (s _ _ h2) h3 h4 ih
  | tup h1 h2 h3 h4 _ ih => exact .tup (s _ _ h1) (s _ _ h2) h3 h4 ih
  | man h o => exact .man (h.same s) o
  | dct h1 h2 h3 h4 => exact .dct (s _ _ h1) (s _ _ h2) h3 h4
theorem any_tm {K : PySem.W.Frag} {T : String} {b c : Bool} (h1 : kitB T "list" = some b) (h2 : kitB T "tuple" = some c) : PySem.W.kitAny K (.type T) [.type "list", .type "tuple"] = some (b || c) := by
  refine kitAny_cons (kit_ty h1) (fun hb => ?_) (fun hb => by rw [hb]; rfl)
  refine kitAny_cons (kit_ty h2) (fun hc => ?_) (fun hc => by rw [hb, hc]; rfl)
  rw [hb, hc]
  exact kitAny_nil
/-- what a manual is no instance of -/
structure MyT (K : PySem.W.Frag) : Prop where
  l : PySem.W.kitOne K (.ref (aC K)) (.type "list") = some false
  t : PySem.W.kitOne K (.ref (aC K)) (.type "tuple") = some false
  d : PySem.W.kitOne K (.ref (aC K)) (.type "dict") = some false
  b : PySem.W.kitOne K (.ref (aC K)) (.type "bool") = some false
theorem MyT.lt {K : PySem.W.Frag} (N : MyT K) : PySem.W.kitAny K (.ref (aC K)) [.type "list", .type "tuple"] = some false := by
  refine kitAny_cons N.l (fun _ => ?_) (fun z => by cases z)
  refine kitAny_cons N.t (fun _ => ?_) (fun z => by cases z)
  exact kitAny_nil
abbrev sEm : Stmt := top 39
abbrev pEm : List Str := ["_law_one", "_law_other"]
abbrev nEm : List Str := ["_law_one", "_law_other", "_law_alike", "_law_a", "_law_b", "_law_key"]
theorem scEm : FnScope nEm pEm (defScope sEm) := ⟨rfl, rfl, rfl, by decide +kernel, rfl, by decide +kernel, by decide +kernel⟩
def spEm (K : PySem.W.Frag) (n : Nat) : Sp := fun vs H Q _ => ∃ x y, vs = [x, y] ∧ Alm K H n x y ∧ ∀ H', Same H H' → Q (.bl true) H'
section
variable {P : Program} {w : World} {K : PySem.W.Frag} {mg : Str → Option Value} {base : Heap} {f : Addr} {fd : FuncData}
theorem ok_em_step {n : Nat} (F : FnP K "_law_exact" sEm f fd) (G : Got P w K mg base (n + 1) "_law_exact" pEm (spEm K n)) (O : OwnE P w K mg base) (M : My K) (N : MyT K) (mIs : mg "isinstance" = none) (mL : mg "len" = none) (mA : mg "all" = none) (mZ : mg "zip" = none) (mLi : mg "list" = none) (mT : mg "tuple" = none) (mD : mg "dict" = none) (mB : mg "bool" = none) :
    FnOk P w K mg base CX0 (n + 2) f fd pEm (spEm K (n + 1)) := by
  refine F.ok scEm (fun vs H Q E h => ?_) (fun cdv A outer s H vs Q E hr h => ?_)
  · obtain ⟨x, y, rfl, _⟩ := h
    rfl
  · obtain ⟨x, y, rfl, hA, k⟩ := h
    have hu1 := hu_of hr
    have tl : ∀ {X : Cx} {p : Pos}, X.mg = mg → Gl X "list" → PE X (.Name "list" p) (tC (.ty "list")) := fun {X p} e g => pe_bltn (v := .ty "list") (u := .type "list") g (by rw [e]; exact mLi) (by decide +kernel) rfl
    have tt : ∀ {X : Cx} {p : Pos}, X.mg = mg → Gl X "tuple" → PE X (.Name "tuple" p) (tC (.ty "tuple")) := fun {X p} e g => pe_bltn (v := .ty "tuple") (u := .type "tuple") g (by rw [e]; exact mT) (by decide +kernel) rfl
    have td : ∀ {X : Cx} {p : Pos}, X.mg = mg → Gl X "dict" → PE X (.Name "dict" p) (tC (.ty "dict")) := fun {X p} e g => pe_bltn (v := .ty "dict") (u := .type "dict") g (by rw [e]; exact mD) (by decide +kernel) rfl
    have tb : ∀ {X : Cx} {p : Pos}, X.mg = mg → Gl X "bool" → PE X (.Name "bool" p) (tC (.ty "bool")) := fun {X p} e g => pe_bltn (v := .ty "bool") (u := .type "bool") g (by rw [e]; exact mB) (by decide +kernel) rfl
    refine ⟨_, PSs.nox (pss_cons (ps_if (pt_val (pe_callB call_isiT (by rfl) mIs (by decide +kernel) (pa_cons (pv 0) (pa_cons (pe_tup (pa_cons (tl rfl (by rfl)) (pa_cons (tt rfl (by rfl)) pa_nil))) pa_nil))))
        (pss_cons (ps_set (i := 2) scEm.nd rfl (Or.inl rfl) (pe_and (pe_cmpR op_eq (pe_callB call_isi (by rfl) mIs (by decide +kernel) (pa_cons (pv 1) (pa_cons (tl rfl (by rfl)) pa_nil))) (pe_callB call_isi (by rfl) mIs (by decide +kernel) (pa_cons (pv 0) (pa_cons (tl rfl (by rfl)) pa_nil))) (nomark _))
            (pe_one (pe_cmpR op_eq (pe_callB call_isi (by rfl) mIs (by decide +kernel) (pa_cons (pv 1) (pa_cons (tt rfl (by rfl)) pa_nil))) (pe_callB call_isi (by rfl) mIs (by decide +kernel) (pa_cons (pv 0) (pa_cons (tt rfl (by rfl)) pa_nil))) (nomark _)))))
          (pss_one (ps_ret (pe_and (pv 2) (pe_and (pe_cmpR op_eq (pe_callB call_len_seq (by rfl) mL PySem.boot_len (pa_cons (pv 0) pa_nil)) (pe_callB call_len_seq (by rfl) mL PySem.boot_len (pa_cons (pv 1) pa_nil)) (nomark _))
            (pe_one (pe_callB (cr_all rfl) (by rfl) mA (by decide +kernel) (pa_cons
              (pe_lc (own := [("_law_a", 3), ("_law_b", 4)]) (g := gTup K 2 (gCons (gName 3) (gCons (gName 4) gNil))) (tt := tYes) (by rfl) scEm.nd (RZ.pi_zipA (by rfl) mZ (pa_cons (pv 0) (pa_cons (pv 1) pa_nil)))
                (blkOk_by (own := [("_law_a", 3), ("_law_b", 4)]) (N := nEm) (sc := defScope sEm) (by decide +kernel))
                (fun _ _ _ _ _ => pg_tup rfl (pgs_cons (pg_name (i := 3) scEm.nd rfl (Or.inl rfl)) (pgs_cons (pg_name (i := 4) scEm.nd rfl (Or.inl rfl)) pgs_nil))) (fun _ _ _ _ _ => pts_nil) (fun _ _ _ _ _ => pe_got G hr (pa_cons (pv 3) (pa_cons (pv 4) pa_nil)) (by rfl) (Nat.le_refl _))) pa_nil)))))))) pss_nil)
      (pss_cons (ps_if (pt_val (pe_callB call_isi (by rfl) mIs (by decide +kernel) (pa_cons (pv 0) (pa_cons (td rfl (by rfl)) pa_nil))))
        (pss_cons (ps_set (i := 2) scEm.nd rfl (Or.inl rfl) (pe_and (pe_callB call_isi (by rfl) mIs (by decide +kernel) (pa_cons (pv 1) (pa_cons (td rfl (by rfl)) pa_nil)))
            (pe_one (pe_got G hr (pa_cons (pe_callTy (call_list_dK rfl) (by rfl) mLi (by decide +kernel) (pa_cons (pv 0) pa_nil)) (pa_cons (pe_callTy (call_list_dK rfl) (by rfl) mLi (by decide +kernel) (pa_cons (pv 1) pa_nil)) pa_nil)) (by rfl) (Nat.le_refl _)))))
          (pss_one (ps_ret (pe_and (pv 2) (pe_one (pe_callB (cr_all rfl) (by rfl) mA (by decide +kernel) (pa_cons
              (pe_lock (pe_lc (own := [("_law_key", 5)]) (g := gName 5) (tt := tYes) (by rfl) scEm.nd (pi_keys (pv 0)) (blkOk_by (own := [("_law_key", 5)]) (N := nEm) (sc := defScope sEm) (by decide +kernel))
                (fun _ _ _ _ _ => pg_name (i := 5) scEm.nd rfl (Or.inl rfl)) (fun _ _ _ _ _ => pts_nil) (fun _ _ _ _ _ => pe_got G hr (pa_cons (pe_dget hu1 (pv 0) (pv 5) (fun _ _ => rfl)) (pa_cons (pe_dget hu1 (pv 1) (pv 5) (fun _ _ => rfl)) pa_nil)) (by rfl) (Nat.le_refl _)))) pa_nil))))))) pss_nil)
      (pss_one (ps_ret (pe_and (pe_cmpR op_eq (pe_callB call_isi (by rfl) mIs (by decide +kernel) (pa_cons (pv 0) (pa_cons (tb rfl (by rfl)) pa_nil))) (pe_callB call_isi (by rfl) mIs (by decide +kernel) (pa_cons (pv 1) (pa_cons (tb rfl (by rfl)) pa_nil))) (nomark _))
        (pe_one (pe_cmpR (OpR.or op_eq (op_eqM O M (hr.mono (Nat.succ_le_succ (Nat.zero_le _))))) (pv 0) (pv 1) (nomark _)))))))), ?_⟩
    cases hA with
    | flat hf =>
      obtain ⟨T, c, ty, h1, h2, h3, h4, hs⟩ : ∃ (T : String) (c : Bool), (∀ H', TyX K H' x (.type T)) ∧ kitB T "list" = some false ∧ kitB T "tuple" = some false ∧ kitB T "dict" = some false ∧ kitB T "bool" = some c ∧ scal x x = true := by
        cases x with
        | non => exact ⟨_, _, fun _ => .base .non, by decide +kernel, by decide +kernel, by decide +kernel, (by decide +kernel : kitB "NoneType" "bool" = some false), rfl⟩
        | bl b => exact ⟨_, _, fun _ => .base (.bl b), by decide +kernel, by decide +kernel, by decide +kernel, (by decide +kernel : kitB "bool" "bool" = some true), rfl⟩
        | int b => exact ⟨_, _, fun _ => .base (.int b), by decide +kernel, by decide +kernel, by decide +kernel, (by decide +kernel : kitB "int" "bool" = some false), rfl⟩
        | str b => exact ⟨_, _, fun _ => .base (.str b), by decide +kernel, by decide +kernel, by decide +kernel, (by decide +kernel : kitB "str" "bool" = some false), rfl⟩
        | _ => cases hf
      refine ⟨_, rfl, (by show 2 ≤ sizeLine; decide), fun tp htp => ?_⟩
      have s1 := same_upd (o := .tup [.ty "list", .ty "tuple"]) htp
      refine ⟨x, tp, _, .type T, [.type "list", .type "tuple"], _, rfl, upd_same, .cons (.ty _) (.cons (.ty _) .nil), ty _, any_tm h1 h2, _, rfl, iteF ?_⟩
      refine ⟨_, rfl, x, .ty "dict", _, _, false, rfl, .ty _, ty _, kit_ty h3, _, rfl, iteF ?_⟩
      refine ⟨_, rfl, x, .ty "bool", _, _, c, rfl, .ty _, ty _, kit_ty h4, _, rfl, x, .ty "bool", _, _, c, rfl, .ty _, ty _, kit_ty h4, (by cases c <;> rfl), _, rfl, ?_⟩
      rw [decide_eq_true rfl]
      refine iteT ⟨_, rfl, _, rfl, .inl ⟨hs, ?_⟩⟩
      rw [decide_eq_true rfl]
      exact k _ s1
    | @man m x ms bs es hm om =>
      refine ⟨_, rfl, (by show 2 ≤ sizeLine; decide), fun tp htp => ?_⟩
      have s1 := same_upd (o := .tup [.ty "list", .ty "tuple"]) htp
      have hm1 := hm.same s1
      have ty := M.ty hm1
      refine ⟨.ref x, tp, _, .ref (aC K), [.type "list", .type "tuple"], _, rfl, upd_same, .cons (.ty _) (.cons (.ty _) .nil), ty, N.lt, _, rfl, iteF ?_⟩
      refine ⟨_, rfl, .ref x, .ty "dict", _, _, false, rfl, .ty _, ty, N.d, _, rfl, iteF ?_⟩
      refine ⟨_, rfl, .ref x, .ty "bool", _, _, false, rfl, .ty _, ty, N.b, _, rfl, .ref x, .ty "bool", _, _, false, rfl, .ty _, ty, N.b, rfl, _, rfl, ?_⟩
      rw [decide_eq_true rfl]
      refine iteT ⟨_, rfl, _, rfl, .inr ⟨x, ms, bs, es, rfl, hm1, om, .inr ⟨x, ms, bs, es, rfl, hm1, om, ?_⟩⟩⟩
      rw [decide_eq_true ⟨rfl, rfl, rfl⟩]
      exact k _ s1
    | @lst _ a b xs ys ha hb hl hz hs =>
      refine ⟨_, rfl, (by show 2 ≤ sizeLine; decide), fun tp htp => ?_⟩
      have s1 := same_upd (o := .tup [.ty "list", .ty "tuple"]) htp
      have ta : TyX K (upd H tp (.tup [.ty "list", .ty "tuple"])) (.ref a) (.type "list") := .base (.lst (s1 _ _ ha))
      have tb' : TyX K (upd H tp (.tup [.ty "list", .ty "tuple"])) (.ref b) (.type "list") := .base (.lst (s1 _ _ hb))
      have kl : kitB "list" "list" = some true := by decide +kernel
      have kt : kitB "list" "tuple" = some false := by decide +kernel
      refine ⟨.ref a, tp, _, .type "list", [.type "list", .type "tuple"], _, rfl, upd_same, .cons (.ty _) (.cons (.ty _) .nil), ta, any_tm kl kt, _, rfl, iteT ?_⟩
      have ha1 := s1 _ _ ha
      have hb1 := s1 _ _ hb
      generalize upd H tp (.tup [.ty "list", .ty "tuple"]) = H1 at s1 ta tb' ha1 hb1
      refine ⟨_, rfl, .ref b, .ty "list", _, _, _, rfl, .ty _, tb', kit_ty kl, _, rfl, .ref a, .ty "list", _, _, _, rfl, .ty _, ta, kit_ty kl, rfl, _, rfl, ?_⟩
      rw [decide_eq_true rfl]
      refine iteT ⟨_, rfl, .ref b, .ty "tuple", _, _, _, rfl, .ty _, tb', kit_ty kt, _, rfl, .ref a, .ty "tuple", _, _, _, rfl, .ty _, ta, kit_ty kt, rfl, ?_⟩
      refine ⟨_, rfl, _, rfl, ?_⟩
      rw [decide_eq_true rfl]
      refine iteT ⟨_, rfl, a, xs, rfl, .inl (SqL.of ha1), _, rfl, b, ys, rfl, .inl (SqL.of hb1), rfl, _, rfl, ?_⟩
      rw [hl, decide_eq_true rfl]
      refine iteT ⟨_, rfl, _, rfl, a, b, xs, ys, rfl, .inl ⟨SqL.of ha1, SqL.of hb1, fun D hD => ?_⟩⟩
      refine lc_pairsL hl (fun i H' => Same H1 H' ∧ H' D = some (.lst ((List.replicate i true).map V.bl))) ⟨same_upd hD, upd_same⟩ (fun i H' ⟨sA, _⟩ => ⟨SqL.of (sA _ _ ha1), SqL.of (sA _ _ hb1)⟩) ?_ ?_
      · rintro i u v T H' hu hv ⟨sA, gA⟩ hT
        have sT := same_upd (o := .tup [u, v]) hT
        refine ⟨T, _, rfl, SqT.of upd_same, rfl, _, _, rfl, _, _, rfl, rfl, rfl, ?_⟩
        dsimp only [tYes]
        rw [if_pos rfl]
        refine ⟨_, rfl, _, rfl, u, v, rfl, Alm.same (s1.trans (sA.trans sT)) (hs i u v hu hv), fun H2 s2 => ?_⟩
        refine ⟨_, s2 _ _ (sT _ _ gA), ?_, fun c o e => ?_, ?_⟩
        · rw [List.length_map, List.length_replicate]
          have : i < xs.length := (List.getElem?_eq_some_iff.mp hu).1
          exact small1000 (by omega)
        · rw [upd_ne (ne_of_none e hD)]
          exact s2 _ _ (sT _ _ (sA _ _ e))
        · rw [upd_same, List.replicate_succ', List.map_append]
          rfl
      · rintro H2 ⟨sA, gA⟩
        refine ⟨D, List.replicate xs.length true, rfl, SqL.of gA, ?_⟩
        rw [show (List.replicate xs.length true).all id = true by simp]
        exact k _ (s1.trans sA)
    | @dct m a b kvs ha hb hn hf =>
      refine ⟨_, rfl, (by show 2 ≤ sizeLine; decide), fun tp htp => ?_⟩
      have s1 := same_upd (o := .tup [.ty "list", .ty "tuple"]) htp
      have ta : TyX K (upd H tp (.tup [.ty "list", .ty "tuple"])) (.ref a) (.type "dict") := .base (.dK (s1 _ _ ha))
      have tb' : TyX K (upd H tp (.tup [.ty "list", .ty "tuple"])) (.ref b) (.type "dict") := .base (.dK (s1 _ _ hb))
      have kl : kitB "dict" "list" = some false := by decide +kernel
      have kt : kitB "dict" "tuple" = some false := by decide +kernel
      have kd : kitB "dict" "dict" = some true := by decide +kernel
      refine ⟨.ref a, tp, _, .type "dict", [.type "list", .type "tuple"], _, rfl, upd_same, .cons (.ty _) (.cons (.ty _) .nil), ta, any_tm kl kt, _, rfl, iteF ?_⟩
      have ha1 := s1 _ _ ha
      have hb1 := s1 _ _ hb
      generalize upd H tp (.tup [.ty "list", .ty "tuple"]) = H1 at s1 ta tb' ha1 hb1
      refine ⟨_, rfl, .ref a, .ty "dict", _, _, true, rfl, .ty _, ta, kit_ty kd, _, rfl, iteT ?_⟩
      refine ⟨_, rfl, .ref b, .ty "dict", _, _, true, rfl, .ty _, tb', kit_ty kd, _, rfl, iteT ?_⟩
      refine ⟨_, rfl, a, kvs, rfl, ha1, fun l1 n1 => ?_⟩
      have s2 := same_upd (o := .lst (kvs.map fun kv => kV kv.1)) n1
      have g1 : upd H1 l1 (.lst (kvs.map fun kv => kV kv.1)) l1 = some (.lst (kvs.map fun kv => kV kv.1)) := upd_same
      generalize upd H1 l1 (.lst (kvs.map fun kv => kV kv.1)) = H2 at s2 g1
      refine ⟨_, rfl, b, kvs, rfl, s2 _ _ hb1, fun l2 n2 => ?_⟩
      have s3 := same_upd (o := .lst (kvs.map fun kv => kV kv.1)) n2
      have g2 : upd H2 l2 (.lst (kvs.map fun kv => kV kv.1)) l2 = some (.lst (kvs.map fun kv => kV kv.1)) := upd_same
      generalize upd H2 l2 (.lst (kvs.map fun kv => kV kv.1)) = H3 at s3 g2
      have fk : ∀ k : Key, flatV (kV k) = true := fun k => by cases k <;> rfl
      refine ⟨_, _, rfl, .lst (s3 _ _ g1) g2 rfl (by rw [List.length_map]; exact hn) (fun i x y hx hy => ?_), fun H4 s4 => ?_⟩
      · rw [hx] at hy
        cases hy
        rw [List.getElem?_map] at hx
        cases e : kvs[i]? with
        | none => rw [e] at hx; cases hx
        | some kv =>
          rw [e] at hx
          obtain rfl : kV kv.1 = x := Option.some.inj hx
          exact .flat (fk kv.1)
      have s14 : Same H1 H4 := s2.trans (s3.trans s4)
      refine ⟨_, rfl, _, rfl, iteT ?_⟩
      refine ⟨a, _, s14 _ _ ha1, trivial, fun od => ?_⟩
      have hba : upd H4 a (.frz od (.dK kvs)) b = some (.dK kvs) ∨ b = a := by
        by_cases e : b = a
        · exact .inr e
        · exact .inl ((upd_ne e).trans (s14 _ _ hb1))
      have hla : upd H4 a (.frz od (.dK kvs)) a = some (.frz od (.dK kvs)) := upd_same
      have ho : ∀ c o, c ≠ a → H4 c = some o → upd H4 a (.frz od (.dK kvs)) c = some o := fun c o n e => (upd_ne n).trans e
      have hfr : ∀ c, upd H4 a (.frz od (.dK kvs)) c = none → H4 c = none ∧ c ≠ a := fun c e => by
        by_cases n : c = a
        · rw [n, hla] at e
          cases e
        · exact ⟨(upd_ne n).symm.trans e, n⟩
      generalize upd H4 a (.frz od (.dK kvs)) = HL at hba hla ho hfr
      refine ⟨_, rfl, a, od, rfl, .inl ⟨kvs, hla, fun D hD => ?_⟩⟩
      refine lc_it (walk_keys (d := a) (o := od) (kvs := kvs)) (fun i H' => Same HL H' ∧ H' D = some (.lst ((List.replicate i true).map V.bl))) ⟨same_upd hD, upd_same⟩ (fun i H' _ ⟨sA, _⟩ => sA _ _ hla) ?_ ?_
      · rintro i x H' H'' hi ⟨sA, gA⟩ ⟨rfl, k, v, hk, rfl⟩
        have hg : ∃ u, valV kvs k = some u ∧ flatV u = true := by
          have h1 : (valV kvs k).isSome = true := by
            rw [← valV_any]
            exact List.any_eq_true.mpr ⟨(k, v), List.mem_of_getElem? hk, by simp⟩
          obtain ⟨u, hu⟩ := Option.isSome_iff_exists.mp h1
          refine ⟨u, hu, ?_⟩
          unfold valV at hu
          cases e : kvs.find? fun kv => decide (kv.1 = k) with
          | none => rw [e] at hu; cases hu
          | some q =>
            rw [e] at hu
            obtain rfl : q.2 = u := Option.some.inj hu
            exact hf q (List.mem_of_find?_eq_some e)
        obtain ⟨u, hu, fu⟩ := hg
        have dA : DGet H'' a (kV k) (some u) := .inl ⟨kvs, k, .inr ⟨od, sA _ _ hla⟩, rfl, hu.symm⟩
        have dB : DGet H'' b (kV k) (some u) := by
          rcases hba with e | e
          · exact .inl ⟨kvs, k, .inl (sA _ _ e), rfl, hu.symm⟩
          · rw [e]
            exact dA
        refine ⟨rfl, ?_⟩
        dsimp only [tYes]
        rw [if_pos rfl]
        refine ⟨_, rfl, _, rfl, a, u, rfl, dA, _, rfl, _, rfl, b, u, rfl, dB, u, u, rfl, .flat fu, fun H6 s6 => ?_⟩
        refine ⟨_, s6 _ _ gA, ?_, fun c o e => ?_, ?_⟩
        · rw [List.length_map, List.length_replicate]
          exact small1000 (by omega)
        · rw [upd_ne (ne_of_none e hD)]
          exact s6 _ _ (sA _ _ e)
        · rw [upd_same, List.replicate_succ', List.map_append]
          rfl
      · rintro H5 ⟨sA, gA⟩
        have nDa : D ≠ a := (ne_of_none hla hD).symm
        refine ⟨sA _ _ hla, ?_⟩
        refine ⟨D, List.replicate kvs.length true, rfl, SqL.of ((upd_ne nDa).trans gA), ?_⟩
        rw [show (List.replicate kvs.length true).all id = true by simp]
        refine k _ fun c o e => ?_
        by_cases n : c = a
        · rw [n, upd_same]
          rw [n, ha] at e
          exact e
        · rw [upd_ne n]
          exact sA _ _ (ho _ _ n (s14 _ _ (s1 _ _ e)))
    | @tup _ a b xs ys ha hb hl hz hs =>
      refine ⟨_, rfl, (by show 2 ≤ sizeLine; decide), fun tp htp => ?_⟩
      have s1 := same_upd (o := .tup [.ty "list", .ty "tuple"]) htp
      have ta : TyX K (upd H tp (.tup [.ty "list", .ty "tuple"])) (.ref a) (.type "tuple") := .base (.tup (s1 _ _ ha))
      have tb' : TyX K (upd H tp (.tup [.ty "list", .ty "tuple"])) (.ref b) (.type "tuple") := .base (.tup (s1 _ _ hb))
      have kl : kitB "tuple" "list" = some false := by decide +kernel
      have kt : kitB "tuple" "tuple" = some true := by decide +kernel
      refine ⟨.ref a, tp, _, .type "tuple", [.type "list", .type "tuple"], _, rfl, upd_same, .cons (.ty _) (.cons (.ty _) .nil), ta, any_tm kl kt, _, rfl, iteT ?_⟩
      have ha1 := s1 _ _ ha
      have hb1 := s1 _ _ hb
      generalize upd H tp (.tup [.ty "list", .ty "tuple"]) = H1 at s1 ta tb' ha1 hb1
      refine ⟨_, rfl, .ref b, .ty "list", _, _, _, rfl, .ty _, tb', kit_ty kl, _, rfl, .ref a, .ty "list", _, _, _, rfl, .ty _, ta, kit_ty kl, rfl, _, rfl, ?_⟩
      rw [decide_eq_true rfl]
      refine iteT ⟨_, rfl, .ref b, .ty "tuple", _, _, _, rfl, .ty _, tb', kit_ty kt, _, rfl, .ref a, .ty "tuple", _, _, _, rfl, .ty _, ta, kit_ty kt, rfl, ?_⟩
      refine ⟨_, rfl, _, rfl, ?_⟩
      rw [decide_eq_true rfl]
      refine iteT ⟨_, rfl, a, xs, rfl, .inr (SqT.of ha1), _, rfl, b, ys, rfl, .inr (SqT.of hb1), rfl, _, rfl, ?_⟩
      rw [hl, decide_eq_true rfl]
      refine iteT ⟨_, rfl, _, rfl, a, b, xs, ys, rfl, .inr ⟨SqT.of ha1, SqT.of hb1, fun D hD => ?_⟩⟩
      refine lc_pairsT hl (fun i H' => Same H1 H' ∧ H' D = some (.lst ((List.replicate i true).map V.bl))) ⟨same_upd hD, upd_same⟩ (fun i H' ⟨sA, _⟩ => ⟨SqT.of (sA _ _ ha1), SqT.of (sA _ _ hb1)⟩) ?_ ?_
      · rintro i u v T H' hu hv ⟨sA, gA⟩ hT
        have sT := same_upd (o := .tup [u, v]) hT
        refine ⟨T, _, rfl, SqT.of upd_same, rfl, _, _, rfl, _, _, rfl, rfl, rfl, ?_⟩
        dsimp only [tYes]
        rw [if_pos rfl]
        refine ⟨_, rfl, _, rfl, u, v, rfl, Alm.same (s1.trans (sA.trans sT)) (hs i u v hu hv), fun H2 s2 => ?_⟩
        refine ⟨_, s2 _ _ (sT _ _ gA), ?_, fun c o e => ?_, ?_⟩
        · rw [List.length_map, List.length_replicate]
          have : i < xs.length := (List.getElem?_eq_some_iff.mp hu).1
          exact small1000 (by omega)
        · rw [upd_ne (ne_of_none e hD)]
          exact s2 _ _ (sT _ _ (sA _ _ e))
        · rw [upd_same, List.replicate_succ', List.map_append]
          rfl
      · rintro H2 ⟨sA, gA⟩
        refine ⟨D, List.replicate xs.length true, rfl, SqL.of gA, ?_⟩
        rw [show (List.replicate xs.length true).all id = true by simp]
        exact k _ (s1.trans sA)
end
theorem got_em {P : Program} {w : World} {K : PySem.W.Frag} {mg : Str → Option Value} {base : Heap} {f : Addr} {fd : FuncData} (F : FnP K "_law_exact" sEm f fd) (gE : mg "_law_exact" = some (.ref f)) (O : OwnE P w K mg base) (M : My K) (N : MyT K) (mIs : mg "isinstance" = none) (mL : mg "len" = none) (mA : mg "all" = none) (mZ : mg "zip" = none)
    (mLi : mg "list" = none) (mT : mg "tuple" = none) (mD : mg "dict" = none) (mB : mg "bool" = none) : ∀ n, Got P w K mg base (n + 1) "_law_exact" pEm (spEm K n) := by
  have b : Binds K fd pEm [] := F.bindsN fun _ _ _ _ _ _ us hl => match us, hl with | [_, _], _ => rfl
  intro n
  induction n with
  | zero =>
    refine ⟨f, fd, ⟨fun vs H Q E h => ?_, fun A outer s H args us vs Q E _ _ _ _ h => ?_⟩, b, F.kp, gE⟩
    · obtain ⟨x, y, rfl, _⟩ := h
      rfl
    · obtain ⟨x, y, rfl, h, _⟩ := h
      cases h
  | succ n ih => exact ⟨f, fd, ok_em_step F ih O M N mIs mL mA mZ mLi mT mD mB, b, F.kp, gE⟩
end L2.K03
set_option Elab.async false
set_option linter.all false
set_option maxRecDepth 100000
set_option maxHeartbeats 4000000
namespace L2.K03
open PySem PySem.Spec PyProof.Rows L2.EV L2
/-! ### the very thing -/
abbrev sVy : Stmt := top 50
abbrev pVy : List Str := ["_law_told_here", "_law_word_here", "_law_thing"]
abbrev nVy : List Str := ["_law_told_here", "_law_word_here", "_law_thing", "_law_same"]
theorem scVy : FnScope nVy pVy (defScope sVy) := ⟨rfl, rfl, rfl, by decide +kernel, rfl, by decide +kernel, by decide +kernel⟩
/-- it is like itself; a list also with one thing more -/
def Self (K : PySem.W.Frag) (H : Hp) (v : V) : Prop := (∀ H', Same H H' → Alm K H' 6 v v) ∧
  ((∃ t, TyX K H v t ∧ (∀ H', Same H H' → TyX K H' v t) ∧ PySem.W.kitOne K t (.type "list") = some false) ∨
    ∃ l xs, v = .ref l ∧ H l = some (.lst xs) ∧ xs.length ≤ 800 ∧ ∀ x ∈ xs, ∀ H', (∀ c o, c ≠ l → H c = some o → H' c = some o) → Alm K H' 5 x x)
def spVy (K : PySem.W.Frag) : Sp := fun vs H Q _ => ∃ (p : Addr) (z : Str) (v : V), vs = [.ref p, .str z, v] ∧ H p = some (.tup [.str z, v, .bl false, .bl true]) ∧ Self K H v ∧ ∀ H', Same H H' → Q (.bl true) H'
section
variable {P : Program} {w : World} {K : PySem.W.Frag} {mg : Str → Option Value} {base : Heap} {f : Addr} {fd : FuncData}
theorem ok_vy (F : FnP K "_law_very" sVy f fd) (GE : ∀ n, Got P w K mg base (n + 1) "_law_exact" pEm (spEm K n)) (mIs : mg "isinstance" = none) (mLi : mg "list" = none) : FnOk P w K mg base CX0 9 f fd pVy (spVy K) := by
  refine F.ok scVy (fun vs H Q E h => ?_) (fun cdv A outer s H vs Q E hr h => ?_)
  · obtain ⟨p, z, v, rfl, _⟩ := h
    rfl
  · obtain ⟨p, z, v, rfl, hp, ⟨self, kind⟩, q⟩ := h
    refine ⟨_, PSs.nox (pss_cons (ps_if (pt_not (pt_val (pe_got (GE 7) hr (pa_cons (pv 0) (pa_cons (pe_tup (pa_cons (pv 1) (pa_cons (pv 2) (pa_cons pe_bl (pa_cons pe_bl pa_nil))))) pa_nil))))) (pss_one (ps_ret pe_bl)) pss_nil)
      (pss_cons (ps_if (pt_val (pe_callB call_isi (by rfl) mIs (by decide +kernel) (pa_cons (pv 2) (pa_cons (pe_bltn (v := .ty "list") (u := .type "list") (by rfl) mLi (by decide +kernel) rfl) pa_nil))))
        (pss_cons (ps_expr (pe_bm PySem.F.plainAttrs_list PySem.F.slot_list_append PySem.F.type_list_append mt_append (pv 2) (pa_cons pe_str pa_nil)))
        (pss_cons (ps_set (i := 3) scVy.nd rfl (Or.inl rfl) (pe_got (GE 6) hr (pa_cons (pe_ix ix_tup (pv 0) pe_int (fun _ _ => rfl)) (pa_cons (pv 2) pa_nil))))
        (pss_cons (ps_expr (pe_bm0 PySem.F.plainAttrs_list PySem.F.slot_list_pop PySem.F.type_list_pop mt_pop (pv 2)))
        (pss_one (ps_ret (pv 3)))))) pss_nil)
      (pss_one (ps_ret pe_bl)))), ?_⟩
    refine ⟨_, rfl, _, rfl, _, rfl, (by show 4 ≤ sizeLine; decide), fun r hr0 => ?_⟩
    have s1 := same_upd (o := .tup [.str z, v, .bl false, .bl true]) hr0
    have g1 : upd H r (.tup [.str z, v, .bl false, .bl true]) r = some (.tup [.str z, v, .bl false, .bl true]) := upd_same
    generalize upd H r (.tup [.str z, v, .bl false, .bl true]) = H1 at s1 g1
    refine ⟨_, _, rfl, .tup (s1 _ _ hp) g1 rfl (by show 4 ≤ 900; decide) (fun i x y hx hy => ?_), fun H2 s2 => ⟨true, rfl, iteF ?_⟩⟩
    · rw [hx] at hy
      cases hy
      match i, hx with
      | 0, hx => cases hx; exact .flat rfl
      | 1, hx => cases hx; exact self _ s1
      | 2, hx => cases hx; exact .flat rfl
      | 3, hx => cases hx; exact .flat rfl
      | n + 4, hx => cases hx
    have s02 := s1.trans s2
    rcases kind with ⟨t, _, ty, kt⟩ | ⟨l, xs, rfl, hl, few, el⟩
    · exact ⟨_, rfl, v, .ty "list", _, _, false, rfl, .ty _, ty _ s02, kt, _, rfl, iteF (q H2 s02)⟩
    · refine ⟨_, rfl, .ref l, .ty "list", _, _, true, rfl, .ty _, .base (.lst (s02 _ _ hl)), kit_ty (by decide +kernel), _, rfl, iteT ?_⟩
      have npl : p ≠ l := fun z => by
        rw [z, hl] at hp
        cases hp
      refine ⟨_, rfl, .inl ⟨rfl, _, SqL.of (s02 _ _ hl)⟩, l, xs, _, rfl, rfl, s02 _ _ hl, small1000 (by omega), ?_⟩
      have gp : upd H2 l (.lst (xs ++ [.str "later"])) p = some (.tup [.str z, .ref l, .bl false, .bl true]) := (upd_ne npl).trans (s02 _ _ hp)
      have gl : upd H2 l (.lst (xs ++ [.str "later"])) l = some (.lst (xs ++ [.str "later"])) := upd_same
      have go : ∀ b o, b ≠ l → H b = some o → upd H2 l (.lst (xs ++ [.str "later"])) b = some o := fun b o n e => (upd_ne n).trans (s02 _ _ e)
      generalize upd H2 l (.lst (xs ++ [.str "later"])) = H3 at gp gl go
      refine ⟨_, rfl, p, _, _, .ref l, rfl, rfl, SqT.of gp, atI_nat (j := 1) rfl, _, rfl, .ref l, .ref l, rfl, .lst gl gl rfl (by rw [List.length_append]; show xs.length + 1 ≤ 900; omega) (fun i x y hx hy => ?_), fun H4 s4 => ?_⟩
      · rw [hx] at hy
        cases hy
        rcases List.mem_append.mp (List.mem_of_getElem? hx) with hm | hm
        · exact el x hm _ go
        · rw [List.mem_singleton.mp hm]
          exact .flat rfl
      · refine ⟨_, rfl, .inl ⟨rfl, _, SqL.of (s4 _ _ gl)⟩, l, _, .str "later", rfl, rfl, s4 _ _ gl, ?_, ?_⟩
        · rw [List.length_append, List.length_singleton, Nat.add_sub_cancel, List.getElem?_append_right (Nat.le_refl _), Nat.sub_self]
          rfl
        · rw [List.dropLast_concat]
          refine ⟨_, rfl, q _ fun b o e => ?_⟩
          by_cases n : b = l
          · rw [n, upd_same]
            rw [n, hl] at e
            exact e
          · rw [upd_ne n]
            exact s4 _ _ (go b o n e)
end
end L2.K03
set_option Elab.async false
set_option linter.all false
set_option maxRecDepth 100000
set_option maxHeartbeats 4000000
namespace L2.EV
open PySem PySem.Spec PyProof.Rows
/-! ### calls by keywords alone -/
/-- the keywords' values in the parameters' order -/
structure KwB (K : PySem.W.Frag) (fd : FuncData) (ps ks : List Str) (g : {α : Type} → List α → List α) : Prop where
  to : ∀ (s : Shared) (ws : List Value), K.In s.heap → ws.length = ks.length → BindsTo s fd ⟨[], ks.zip ws⟩ (ps.zip (g ws))
  rel : ∀ {zs : List V} {ws : List Value}, Vals zs ws → zs.length = ks.length → Vals (g zs) (g ws)
theorem FunD.kw {K : PySem.W.Frag} {x qual : Str} {params : Arguments} {body : List Stmt} {scope : Scope} {kws : List (Str × V)} {f : Addr} {fd : FuncData} {ps ks : List Str} (F : FunD K x qual params body scope [] kws f fd) (g : {α : Type} → List α → List α)
    (h : ∀ (kV doc pm : Value) (an : Option Addr) (cdv ct : Value) (ws : List Value), ws.length = ks.length → bindArgs (PySem.W.fnOf x qual params body scope .none kV doc pm an cdv ct) ⟨[], ks.zip ws⟩ = pure (ps.zip (g ws)))
    (rel : ∀ {zs : List V} {ws : List Value}, Vals zs ws → zs.length = ks.length → Vals (g zs) (g ws)) : KwB K fd ps ks g := by
  obtain ⟨oc, od, dV, kV, doc, pm, an, cdv, ct, osl, rfl, lk, hcd, hD, hK⟩ := F.ex
  rcases hD with ⟨_, rfl⟩ | ⟨e, _⟩
  · exact ⟨fun s ws _ hl => .of_eq (h kV doc pm an cdv ct ws hl), rel⟩
  · exact absurd rfl e
structure GotK (P : Program) (w : World) (K : PySem.W.Frag) (mg : Str → Option Value) (base : Heap) (CX : CXT) (k : Nat) (x : Str) (ps ks : List Str) (g : {α : Type} → List α → List α) (sp : Sp) : Prop where
  ex : ∃ f fd, FnOk P w K mg base CX k f fd ps sp ∧ KwB K fd ps ks g ∧ PySem.W.keepIn K (.ref f) = true ∧ mg x = some (.ref f)
def tCallKw (sp : Sp) (n : Nat) (g : List V → List V) (E : XK) (tk : TA) : TE := fun σ H Q => tk σ H fun zs H1 => zs.length = n ∧ sp (g zs) H1 Q E
theorem pe_gotK {X : Cx} {CX : CXT} {k j : Nat} {x : Str} {ps ks : List Str} {g : {α : Type} → List α → List α} {sp : Sp} {E : XK} {p pos : Pos} {kws : List Keyword} {tk : TA} (G : GotK X.prog X.w X.K X.mg X.base CX k x ps ks g sp) (hr : Room j X.A) (hx : Passes CX X E) (hk : PK X kws tk) (hg : Gl X x := by rfl) (hj : k ≤ j := by decide)
    (hdb : (x == ("__debug__" : Str)) = false := by decide) (hall : (backToKw pos (keywordEach kws X.env)).all (·.1.isSome) = true := by rfl) (hks : (backToKw pos (keywordEach kws X.env)).filterMap (·.1) = ks := by rfl)
    (hpl : ((backTo pos (starEach [] X.env)).any (·.1) || (backToKw pos (keywordEach kws X.env)).any (·.1.isNone)) = false := by rfl) : PE X (.Call (.Name x p) [] kws pos) (tCallKw sp ks.length g E tk) := by
  obtain ⟨f, fd, F, b, kp, m⟩ := G.ex
  refine ⟨fun pins s σ H Q I h => ?_⟩
  refine wpAny_Call_Name_kw (ld_glob I hg m ?_ hdb)
  refine PySem.W.callWith_KW0 (h₀ := X.base) I.ok.mod.kin kp hall ?_ hpl
  refine thn (hk.run pos pins s σ H _ I h) fun ws s2 ⟨zs, H2, I2, rz, hz, q2⟩ => ⟨I2.kIn, ?_⟩
  rw [hks]
  refine wpAny_call (codeAny_mono (F.run X.A X.stack s2 H2 ⟨[], ks.zip ws⟩ (g ws) (g zs) Q E (hr.mono hj) I2.env0 (b.to s2 ws I2.kIn (rz.length.symm.trans hz)) (b.rel rz hz) q2) fun r s' hq => ?_)
  cases r with
  | error e => exact hx pins σ H2 s2 e s' I2 hq
  | ok fl =>
    cases fl with
    | ret u => exact I2.after hq
    | next => exact False.elim hq
    | brk => exact False.elim hq
    | cont => exact False.elim hq
end L2.EV
namespace L2.K03
open PySem PySem.Spec PyProof.Rows L2.EV L2
/-! ### sorted, then picked -/
theorem dleM_total : PySem.W.TotalLe (PySem.W.dataLe false dMn) := PySem.W.sortLe_total _ _ _
theorem dleM_anti {m n : Mn} (h1 : PySem.W.dataLe false dMn m n = true) (h2 : PySem.W.dataLe false dMn n m = true) : m = n := by
  have f1 : (listOrd itemOrd).blt (PySem.W.keyToks (dMn n)) (PySem.W.keyToks (dMn m)) = false := by simpa using (show (!(listOrd itemOrd).blt (PySem.W.keyToks (dMn n)) (PySem.W.keyToks (dMn m))) = true from h1)
  have f2 : (listOrd itemOrd).blt (PySem.W.keyToks (dMn m)) (PySem.W.keyToks (dMn n)) = false := by simpa using (show (!(listOrd itemOrd).blt (PySem.W.keyToks (dMn m)) (PySem.W.keyToks (dMn n))) = true from h2)
  exact toks_mn ((listOrd itemOrd).total _ _ f2 f1)
theorem srt_filter (p : Mn → Bool) (ms : List Mn) : srtM (ms.filter p) = (srtM ms).filter p := by
  have tr := fun a b c => dleM_total.trans a b c
  have to : ∀ a b : Mn, (PySem.W.dataLe false dMn a b || PySem.W.dataLe false dMn b a) = true := fun a b => by
    rcases dleM_total.total a b with e | e
    · rw [e, Bool.true_or]
    · rw [e, Bool.or_true]
  refine List.Perm.eq_of_pairwise (le := fun a b => PySem.W.dataLe false dMn a b = true) (fun a b _ _ e1 e2 => dleM_anti e1 e2) (List.pairwise_mergeSort tr to _) ((List.pairwise_mergeSort tr to ms).filter p) ((srtM_perm _).trans ((srtM_perm ms).filter p).symm)
theorem at_srt (ms : List Mn) (r j : Str) : atL (srtM ms) r j = srtM (atL ms r j) := (srt_filter _ ms).symm
end L2.K03
set_option Elab.async false
set_option linter.all false
set_option maxRecDepth 100000
set_option maxHeartbeats 4000000
namespace L2.K03
open PySem PySem.Spec PyProof.Rows L2.EV L2
/-! ### other == made, other of a built-in type: its own == declines, and made's is asked -/
section
variable {prog : Program} {w : World} {A : Around} {E : Value → Shared → Prop} {s : Shared} {K : PySem.W.Frag} {x C f : Addr} {ox : Obj} {od : Option Obj} {a : Value} {T id : String} {Q : Value → Shared → Prop}
theorem rc_K (hu : A.units < cLine) (X : K.In s.heap) (I : PySem.W.InstAt s.heap x ox C od) (ha : s.TypeIs a T) (h1 : Slot T "__eq__" id) (hm : PySem.W.mroIn K C (.type T) = some false)
    (hc : ∀ Q' : Value → Shared → Prop, Q' .notImplemented s → wpAny (model prog w) A (call (.builtin id) [a, .ref x]) Q' E s)
    (hs : PySem.W.findIn K (.ref C) "__eq__" = some (some (.ref f))) (hf : PySem.W.isFn K (.ref f) = true)
    (h : wpAny (model prog w) A (call (.ref f) [.ref x, a]) (PySem.W.CmpBack Q) E s) : wpAny (model prog w) A (richCompare .Eq a (.ref x)) Q E s := by
  have two : wpAny (model prog w) A (tryCompare (.ref x) "__eq__" a) (fun r s' => ∃ v, r = some v ∧ Q v s') E s := by
    unfold tryCompare
    refine wpAny_bind (PySem.W.ifBound_K X I hs hf (wpAny_mono h (fun v s' hv => ?_) fun _ _ e => e))
    cases v <;> first | exact hv.elim | exact wpAny_pure ⟨_, rfl, hv⟩
  simp only [richCompare, cmpInfo_Eq, ha.oneThing_none]
  refine wpAny_holding (wpAny_bind (wpAny_cRoomFor hu ?_))
  refine wpAny_bind (wpAny_typeOf ha (wpAny_bind (I.type.here ?_)))
  have hne : (Value.type T != Value.ref C) = true := rfl
  simp only [hne, if_true]
  refine wpAny_bind ((PySem.W.looks_mroIn X hm).here ?_)
  simp only [Bool.false_eq_true, if_false, Bool.not_false, if_true]
  refine wpAny_bind (m := tryCompare a _ (.ref x)) (wpAny_tryCompare_declines ha h1 (hc _ ⟨rfl, ?_⟩))
  refine wpAny_bind (m := tryCompare (.ref x) _ a) (wpAny_mono two (fun r s2 z => ?_) fun _ _ e => e)
  obtain ⟨v, rfl, hq⟩ := z
  exact wpAny_pure hq
end
section
variable (l c : Addr) (items : Nat) (dd : Option Addr) (sl : Array (Option Value))
theorem int_decl (b : Int) (u : Tok) : Meets (Builtin.«int.__eq__» ⟨[.int b u, .ref l], []⟩) (fun _ R s => s.heap.get? l = some { cls := .ref c, dict := dd, data := .plain, slots := sl } ∧ R (.ok (.ret .notImplemented)) s) :=
  .of_wp fun prog w A R s h => by obtain ⟨hp, g, d, tk, os⟩ := s; obtain ⟨hl, h⟩ := h; wp_walk using AutoSeq1.wpAny_loadPart' hl, wpAny_load hl; exact ⟨_, rfl, h⟩
theorem bool_decl (b : Bool) : Meets (Builtin.«int.__eq__» ⟨[.bool b, .ref l], []⟩) (fun _ R s => s.heap.get? l = some { cls := .ref c, dict := dd, data := .plain, slots := sl } ∧ R (.ok (.ret .notImplemented)) s) :=
  .of_wp fun prog w A R s h => by obtain ⟨hp, g, d, tk, os⟩ := s; obtain ⟨hl, h⟩ := h; wp_walk using AutoSeq1.wpAny_loadPart' hl, wpAny_load hl; exact ⟨_, rfl, h⟩
theorem str_decl (b : Str) (u : Tok) : Meets (Builtin.«str.__eq__» ⟨[.str b u, .ref l], []⟩) (fun _ R s => s.heap.get? l = some { cls := .ref c, dict := dd, data := .plain, slots := sl } ∧ R (.ok (.ret .notImplemented)) s) :=
  .of_wp fun prog w A R s h => by obtain ⟨hp, g, d, tk, os⟩ := s; obtain ⟨hl, h⟩ := h; wp_walk using AutoSeq1.wpAny_loadPart' hl, wpAny_load hl; exact ⟨_, rfl, h⟩
end
section
variable {prog : Program} {w : World} {A : Around} {E : Value → Shared → Prop} {s : Shared} {K : PySem.W.Frag} {x C f : Addr} {ox : Obj} {od : Option Obj} {a : Value} {T id : String} {Q : Value → Shared → Prop}
theorem isI {M : Model} {h : Heap} {b : Value} {r : Bool} (X : K.In h) (I : PySem.W.InstAt h x ox C od) (hm : PySem.W.mroIn K C b = some r) : PySem.W.Looks M h (isInstance (.ref x) b) r :=
  I.type.andThen (PySem.W.looks_mroIn X hm)
theorem list_decl (X : K.In s.heap) (I : PySem.W.InstAt s.heap x ox C od) (hm : PySem.W.mroIn K C (.type "list") = some false) (hl : s.TypeIs a "list") (h : Q .notImplemented s) : wpAny (model prog w) A (call (.builtin "list.__eq__") [a, .ref x]) Q E s := by
  refine wpAny_call (codeAny_call_builtin F.slot_list_eq.plain F.entry_list_eq (F.slot_list_eq.check _ _ _ _ _ _ _ _ hl (F.args_list_eq_2 _ _) ?_))
  unfold Builtin.«list.__eq__»
  refine wpAny_bind (m := slotArgs "__eq__" 1 _) (wpAny_of_eq (rfl : slotArgs "__eq__" 1 ⟨[a, .ref x], []⟩ = pure (a, [.ref x])) ?_)
  dsimp only
  refine wpAny_bind (m := isInstance (.ref x) (.type "list")) ((isI X I hm).here ?_)
  simp only [Bool.not_false, Bool.false_eq_true, if_true, if_false]
  exact wpAny_pure h
theorem tuple_decl (X : K.In s.heap) (I : PySem.W.InstAt s.heap x ox C od) (hm : PySem.W.mroIn K C (.type "tuple") = some false) (hl : s.TypeIs a "tuple") (h : Q .notImplemented s) : wpAny (model prog w) A (call (.builtin "tuple.__eq__") [a, .ref x]) Q E s := by
  refine wpAny_call (codeAny_call_builtin F.slot_tuple_eq.plain F.entry_tuple_eq (F.slot_tuple_eq.check _ _ _ _ _ _ _ _ hl (F.args_tuple_eq_2 _ _) ?_))
  unfold Builtin.«tuple.__eq__»
  refine wpAny_bind (m := slotArgs "__eq__" 1 _) (wpAny_of_eq (rfl : slotArgs "__eq__" 1 ⟨[a, .ref x], []⟩ = pure (a, [.ref x])) ?_)
  dsimp only
  refine wpAny_bind (m := isInstance (.ref x) (.type "tuple")) ((isI X I hm).here ?_)
  simp only [Bool.not_false, Bool.false_eq_true, if_true, if_false]
  exact wpAny_pure h
theorem dict_decl (X : K.In s.heap) (I : PySem.W.InstAt s.heap x ox C od) (hm : PySem.W.mroIn K C (.type "dict") = some false) (hl : s.TypeIs a "dict") (h : Q .notImplemented s) : wpAny (model prog w) A (call (.builtin "dict.__eq__") [a, .ref x]) Q E s := by
  refine wpAny_call (codeAny_call_builtin F.slot_dict_eq.plain F.entry_dict_eq (F.slot_dict_eq.check _ _ _ _ _ _ _ _ hl (F.args_dict_eq_2 _ _) ?_))
  unfold Builtin.«dict.__eq__»
  refine wpAny_bind (m := Builtin.Dict.dictSlotArgs "__eq__" _) (wpAny_of_eq (rfl : Builtin.Dict.dictSlotArgs "__eq__" ⟨[a, .ref x], []⟩ = pure (a, .ref x)) ?_)
  dsimp only
  refine wpAny_bind (m := isInstance (.ref x) (.type "dict")) ((isI X I hm).here ?_)
  simp only [Bool.not_false, Bool.false_eq_true, if_true, if_false]
  exact wpAny_bind (wpAny_rule (wpAny_pure h))
end
/-- no built-in type is above Manual but object -/
structure MyB (K : PySem.W.Frag) : Prop where
  n : PySem.W.mroIn K (aC K) (.type "NoneType") = some false
  b : PySem.W.mroIn K (aC K) (.type "bool") = some false
  i : PySem.W.mroIn K (aC K) (.type "int") = some false
  s : PySem.W.mroIn K (aC K) (.type "str") = some false
  l : PySem.W.mroIn K (aC K) (.type "list") = some false
  t : PySem.W.mroIn K (aC K) (.type "tuple") = some false
  d : PySem.W.mroIn K (aC K) (.type "dict") = some false
/-- a value of a built-in type that the law holds against a manual -/
def rEqL (K : PySem.W.Frag) : R2 := fun x y H Q => ∃ a ms bs es T, y = .ref a ∧ ManuAt K H a ms bs es ∧ MOk ms bs es ∧ TyB K H x T ∧ T ≠ "bytes" ∧ NoMan K H x ∧ Q (.bl false) H
theorem op_eqL {X : Cx} (O : OwnE X.prog X.w X.K X.mg X.base) (B : MyB X.K) (hr : Room 1 X.A) : OpR X (compareOp .Eq) (rEqL X.K) := by
  obtain ⟨f, fd, G, hb, hs, hf⟩ := O.ex
  intro pins s σ H x y v u Q I rx ry h
  obtain ⟨a, ms, bs, es, T, rfl, hm, om, ty, nb, no, q⟩ := h
  cases ry
  obtain ⟨dx, fs, hx, _⟩ := hm.plain
  obtain ⟨mA, J, _⟩ := ins_get I.hok hx
  obtain ⟨od, J, _⟩ := J.look
  show wpAny (model X.prog X.w) X.A (richCompare .Eq v (.ref a)) (EP X pins σ Q) X.xe s
  have hT := ty.is I rx
  have go : ∀ id : String, Slot T "__eq__" id → PySem.W.mroIn X.K (aC X.K) (.type T) = some false → (∀ Q' : Value → Shared → Prop, Q' .notImplemented s → wpAny (model X.prog X.w) X.A (call (.builtin id) [v, .ref a]) Q' X.xe s) →
      wpAny (model X.prog X.w) X.A (richCompare .Eq v (.ref a)) (EP X pins σ Q) X.xe s := fun id h1 h2 h3 => by
    refine rc_K hr.units0 I.kIn J hT h1 h2 h3 hs hf ?_
    have r2 : Vals [V.ref a, x] [Value.ref a, v] := .cons rfl (.cons rx .nil)
    have hsp : spEq X.K [.ref a, x] H (fun r H' => r = .bl false ∧ H' = H) E0 := ⟨a, ms, bs, es, x, rfl, hm, om, .inl ⟨no, rfl, rfl⟩⟩
    refine wpAny_call (codeAny_mono (G.run X.A X.stack s H ⟨[.ref a, v], []⟩ [.ref a, v] [.ref a, x] _ E0 hr I.env0 (by
      have := hb s [.ref a, v] I.kIn rfl
      simpa using this) r2 hsp) fun r s' hq => ?_)
    cases r with
    | error e => exact pass0 (X := X) pins σ H s e s' I hq
    | ok fl =>
      cases fl with
      | ret w =>
        obtain ⟨z, H', I', rz, ez, eh⟩ := I.after hq
        subst ez eh
        cases rz
        exact ⟨.bl false, _, I', rfl, q⟩
      | next => exact False.elim hq
      | brk => exact False.elim hq
      | cont => exact False.elim hq
  cases ty with
  | non =>
    cases (show v = Value.none from rx)
    exact go _ F.slot_NoneType_eq B.n fun Q' z => call_gives F.slot_NoneType_eq rfl F.entry_NoneType_eq (F.args_NoneType_eq_2 _ _) (SeqAt.NoneType___eq___none_ref_0 a) z
  | bl b =>
    cases (show v = Value.bool b from rx)
    exact go _ F.slot_bool_eq B.b fun Q' z => call_meets F.slot_bool_eq rfl F.entry_int_eq (F.args_int_eq_2 _ _) (bool_decl a _ _ _ b) ⟨J.at_, z⟩
  | int i =>
    obtain ⟨t, rfl⟩ := (show ∃ t, v = Value.int i t from rx)
    exact go _ F.slot_int_eq B.i fun Q' z => call_meets F.slot_int_eq rfl F.entry_int_eq (F.args_int_eq_2 _ _) (int_decl a _ _ _ i t) ⟨J.at_, z⟩
  | str i =>
    obtain ⟨t, rfl⟩ := (show ∃ t, v = Value.str i t from rx)
    exact go _ F.slot_str_eq B.s fun Q' z => call_meets F.slot_str_eq rfl F.entry_str_eq (F.args_str_eq_2 _ _) (str_decl a _ _ _ i t) ⟨J.at_, z⟩
  | byt b => exact absurd rfl nb
  | lst e => exact go _ F.slot_list_eq B.l fun Q' z => list_decl I.kIn J B.l hT z
  | tup e => exact go _ F.slot_tuple_eq B.t fun Q' z => tuple_decl I.kIn J B.t hT z
  | dK e => exact go _ F.slot_dict_eq B.d fun Q' z => dict_decl I.kIn J B.d hT z
end L2.K03
set_option Elab.async false
set_option linter.all false
set_option maxRecDepth 100000
set_option maxHeartbeats 4000000
namespace L2.EV
open PySem PySem.Spec PyProof.Rows
/-- a def without defaults: n values and the keywords ks -/
theorem FunD.kbn {K : PySem.W.Frag} {x qual : Str} {params : Arguments} {body : List Stmt} {scope : Scope} {kws : List (Str × V)} {f : Addr} {fd : FuncData} {ps ks : List Str} (F : FunD K x qual params body scope [] kws f fd) (n : Nat) (g : {α : Type} → List α → List α → List α)
    (rel : ∀ {vs zs : List V} {us ws : List Value}, Vals vs us → Vals zs ws → Vals (g vs zs) (g us ws))
    (h : ∀ (kV doc pm : Value) (an : Option Addr) (cdv ct : Value) (us ws : List Value), us.length = n → ws.length = ks.length → bindArgs (PySem.W.fnOf x qual params body scope .none kV doc pm an cdv ct) ⟨us, ks.zip ws⟩ = pure (ps.zip (g us ws))) : KBn K fd ps n ks g g := by
  obtain ⟨oc, od, dV, kV, doc, pm, an, cdv, ct, osl, rfl, lk, hcd, hD, hK⟩ := F.ex
  rcases hD with ⟨_, rfl⟩ | ⟨e, _⟩
  · exact ⟨fun s us ws _ h1 h2 => .of_eq (h kV doc pm an cdv ct us ws h1 h2), rel⟩
  · exact absurd rfl e
end L2.EV
namespace L2.K03
open PySem PySem.Spec PyProof.Rows L2.EV L2
/-! ### Manual(ends = .., manners = .., beginnings = ..) -/
abbrev kMan : List Str := ["ends", "manners", "beginnings"]
def ro {α : Type} : List α → List α
  | [e, m, b] => [m, b, e]
  | l => l
def roA {α : Type} (us ws : List α) : List α := us ++ ro ws
theorem vals_app {vs : List V} {us : List Value} (h : Vals vs us) {zs : List V} {ws : List Value} (g : Vals zs ws) : Vals (vs ++ zs) (us ++ ws) := by
  induction h with
  | nil => exact g
  | cons r _ ih => exact .cons r ih
theorem ro_rel {zs : List V} {ws : List Value} (h : Vals zs ws) : Vals (ro zs) (ro ws) := by
  cases h with
  | nil => exact .nil
  | cons r1 h =>
    cases h with
    | nil => exact .cons r1 .nil
    | cons r2 h =>
      cases h with
      | nil => exact .cons r1 (.cons r2 .nil)
      | cons r3 h =>
        cases h with
        | nil => exact .cons r2 (.cons r3 (.cons r1 .nil))
        | cons r4 h => exact .cons r1 (.cons r2 (.cons r3 (.cons r4 h)))
theorem roA_rel {vs zs : List V} {us ws : List Value} (h : Vals vs us) (g : Vals zs ws) : Vals (roA vs zs) (roA us ws) := vals_app h (ro_rel g)
structure GotCK (P : Program) (w : World) (K : PySem.W.Frag) (mg : Str → Option Value) (base : Heap) : Prop where
  ex : ∃ f fd, Mk K (aC K) f ∧ FnOk P w K mg base (L2.CX P w) 5 f fd pIn (spIn K) ∧ KBn K fd pIn 1 kMan roA roA ∧ mg "Manual" = some (.ref (aC K))
/-- what sIn's def gives for it -/
theorem kb_in {K : PySem.W.Frag} {x qual : Str} {f : Addr} {fd : FuncData} (F : FunD K x qual (defArgs sIn) (defBody sIn) (defScope sIn) [] [] f fd) : KBn K fd pIn 1 kMan roA roA :=
  FunD.kbn F 1 roA roA_rel fun kV doc pm an cdv ct us ws h1 h2 => by
    match us, ws, h1, h2 with
    | [u], [a, b, c], _, _ => rfl
def tMakeKw (C : Addr) (sp : Sp) (E : XK) (tk : TA) : TE := fun σ H Q => tk σ H fun zs H1 => zs.length = 3 ∧ ∀ x dx, H1 x = none → H1 dx = none → dx ≠ x → sp (.ref x :: ro zs) (upd (upd H1 dx (.own x)) x (.ins C dx [])) (fun v H2 => v = .non ∧ Q (.ref x) H2) E
theorem pe_manK {X : Cx} {p pos : Pos} {kws : List Keyword} {tk : TA} (G : GotCK X.prog X.w X.K X.mg X.base) (hr : Room 6 X.A) (hk : PK X kws tk) (hg : Gl X "Manual" := by rfl)
    (hall : (backToKw pos (keywordEach kws X.env)).all (·.1.isSome) = true := by rfl) (hks : (backToKw pos (keywordEach kws X.env)).filterMap (·.1) = kMan := by rfl)
    (hpl : ((backTo pos (starEach [] X.env)).any (·.1) || (backToKw pos (keywordEach kws X.env)).any (·.1.isNone)) = false := by rfl) : PE X (.Call (.Name "Manual" p) [] kws pos) (tMakeKw (aC X.K) (spIn X.K) (fun _ _ _ => False) tk) := by
  obtain ⟨f, fd, M, F, b, m⟩ := G.ex
  refine ⟨fun pins s σ H Q I h => ?_⟩
  refine wpAny_Call_Name_kw (ld_glob I hg m ?_ (by decide))
  refine PySem.W.callWith_KW0 (h₀ := X.base) I.ok.mod.kin M.kp hall ?_ hpl
  refine thn (hk.run pos pins s σ H _ I h) fun ws s2 ⟨zs, H2, I2, rz, hz, q2⟩ => ⟨I2.kIn, ?_⟩
  rw [hks]
  exact run_makeN M F hr b passF I2 .nil rz rfl hz q2
end L2.K03
set_option Elab.async false
set_option linter.all false
set_option maxRecDepth 100000
set_option maxHeartbeats 4000000
namespace L2.K03
open PySem PySem.Spec PyProof.Rows L2.EV L2
/-! ### made is unlike the others and what is no manual -/
abbrev sUl : Stmt := top 53
abbrev pUl : List Str := ["_law_made", "_law_world_here", "_law_others_here"]
abbrev nUl : List Str := ["_law_made", "_law_world_here", "_law_others_here", "_law_some_here", "_law_other", "_law_told_here"]
theorem scUl : FnScope nUl pUl (defScope sUl) := ⟨rfl, rfl, rfl, by decide +kernel, rfl, by decide +kernel, by decide +kernel⟩
/-- the seven built-in types are no Manual, and are not asked first -/
def seven : List String := ["NoneType", "bool", "int", "str", "list", "tuple", "dict"]
structure Far (K : PySem.W.Frag) : Prop where
  k : ∀ T ∈ seven, PySem.W.kitOne K (.type T) (.ref (aC K)) = some false
  f : ∀ T ∈ seven, PySem.W.notFirst K (aC K) (.type T) = true
/-- a value of one of them -/
def Nm (H : Hp) (z : V) : Prop := z = .non ∨ (∃ b, z = .bl b) ∨ (∃ i, z = .int i) ∨ (∃ x, z = .str x) ∨ ∃ a o, z = .ref a ∧ H a = some o ∧ ((∃ xs, o = .lst xs) ∨ (∃ xs, o = .tup xs) ∨ ∃ kvs, o = .dK kvs)
theorem Nm.same {H H' : Hp} {z : V} (h : Nm H z) (s : Same H H') : Nm H' z := by
  rcases h with h | h | h | h | ⟨a, o, e, h, r⟩
  · exact .inl h
  · exact .inr (.inl h)
  · exact .inr (.inr (.inl h))
  · exact .inr (.inr (.inr (.inl h)))
  · exact .inr (.inr (.inr (.inr ⟨a, o, e, s _ _ h, r⟩)))
theorem Nm.ty {K : PySem.W.Frag} {H : Hp} {z : V} (h : Nm H z) : ∃ T ∈ seven, TyB K H z T ∧ T ≠ "bytes" ∧ TyX K H z (.type T) := by
  rcases h with rfl | ⟨b, rfl⟩ | ⟨i, rfl⟩ | ⟨x, rfl⟩ | ⟨a, o, rfl, h, ⟨xs, rfl⟩ | ⟨xs, rfl⟩ | ⟨xs, rfl⟩⟩
  · exact ⟨_, by decide, .non, by decide, .base .non⟩
  · exact ⟨_, by decide, .bl b, by decide, .base (.bl b)⟩
  · exact ⟨_, by decide, .int i, by decide, .base (.int i)⟩
  · exact ⟨_, by decide, .str x, by decide, .base (.str x)⟩
  · exact ⟨_, by decide, .lst (SqL.of h), by decide, .base (.lst h)⟩
  · exact ⟨_, by decide, .tup (SqT.of h), by decide, .base (.tup h)⟩
  · exact ⟨_, by decide, .dK h, by decide, .base (.dK h)⟩
theorem MOk.srt {ms : List Mn} {bs es : List Str} (h : MOk ms bs es) : MOk (srtM ms) (srtW bs) (srtW es) := ⟨fun m z => h.m m ((srtM_perm ms).mem_iff.mp z), fun x z => h.b x ((srtW_perm bs).mem_iff.mp z), fun x z => h.e x ((srtW_perm es).mem_iff.mp z)⟩
/-- three lists of a world that is another one than (ms, bs, es) -/
def OthAt (H : Hp) (v : V) (ms : List Mn) (bs es : List Str) : Prop := ∃ (a lm lb le : Addr) (ws : List V) (ns : List Mn) (cs ds : List Str), v = .ref a ∧ H a = some (.lst [.ref lm, .ref lb, .ref le]) ∧ H lm = some (.lst ws) ∧ Mans H ws ns ∧ H lb = some (.lst (cs.map V.str)) ∧ H le = some (.lst (ds.map V.str)) ∧
  MOk ns cs ds ∧ ns.length < 64 ∧ cs.length ≤ 900 ∧ ds.length ≤ 900 ∧ ns.Nodup ∧ cs.Nodup ∧ ds.Nodup ∧ ¬(srtM ms = srtM ns ∧ srtW bs = srtW cs ∧ srtW es = srtW ds)
theorem OthAt.same {H H' : Hp} {v : V} {ms : List Mn} {bs es : List Str} (h : OthAt H v ms bs es) (s : Same H H') : OthAt H' v ms bs es := by
  obtain ⟨a, lm, lb, le, ws, ns, cs, ds, e, h1, h2, h3, h4, h5, r⟩ := h
  exact ⟨a, lm, lb, le, ws, ns, cs, ds, e, s _ _ h1, s _ _ h2, h3.same s, s _ _ h4, s _ _ h5, r⟩
def spUl (K : PySem.W.Frag) : Sp := fun vs H Q _ => ∃ (x a o : Addr) (ms : List Mn) (bs es rs js : List Str) (ys : List V), vs = [.ref x, .ref a, .ref o] ∧ ManuAt K H x (srtM ms) (srtW bs) (srtW es) ∧ MOk ms bs es ∧ WdAt H a ms bs es rs js ∧ H o = some (.lst ys) ∧ (∀ y ∈ ys, OthAt H y ms bs es) ∧ ∀ H', Same H H' → Q (.bl true) H'
section
variable {P : Program} {w : World} {K : PySem.W.Frag} {mg : Str → Option Value} {base : Heap} {f : Addr} {fd : FuncData}
theorem ok_ul (F : FnP K "_law_unlike_right" sUl f fd) (C : Mc K) (M : My K) (B : MyB K) (N : NoNe K) (Z : Far K) (O : OwnE P w K mg base) (G : GotC P w K mg base) (GX : Got P w K mg base 6 "_law_exact" pEx (spEx 5)) (mLi : mg "list" = none) : FnOk P w K mg base CX0 7 f fd pUl (spUl K) := by
  refine F.ok scUl (fun vs H Q E h => ?_) (fun cdv A outer s H vs Q E hr h => ?_)
  · obtain ⟨x, a, o, ms, bs, es, rs, js, ys, rfl, _⟩ := h
    rfl
  · obtain ⟨x, a, o, ms, bs, es, rs, js, ys, rfl, hm, om, hw, ho, hy, q⟩ := h
    have hu := hr.units
    have hr1 := hr.mono (show 1 ≤ 6 by decide)
    have hr2 := hr.mono (show 2 ≤ 6 by decide)
    refine ⟨_, PSs.nox (pss_cons (ps_for PassesOwn.never rfl (pi_list (pv 2)) (pg_name (i := 3) scUl.nd rfl (Or.inl rfl))
        (pss_cons (ps_set (i := 4) scUl.nd rfl (Or.inl rfl) (pe_man G hr (pa_cons (pe_callTy call_list_of (by rfl) mLi (by decide +kernel) (pa_cons (pe_ix ix_list (pv 3) pe_int (fun _ _ => rfl)) pa_nil))
            (pa_cons (pe_callTy call_list_of (by rfl) mLi (by decide +kernel) (pa_cons (pe_ix ix_list (pv 3) pe_int (fun _ _ => rfl)) pa_nil)) (pa_cons (pe_callTy call_list_of (by rfl) mLi (by decide +kernel) (pa_cons (pe_ix ix_list (pv 3) pe_int (fun _ _ => rfl)) pa_nil)) pa_nil)))))
        (pss_one (ps_for PassesOwn.never rfl (pi_tup (pe_tup (pa_cons (pe_cmpR (op_eqM O M hr1) (pv 0) (pv 4) (nomark _)) (pa_cons (pe_cmpR (op_eqM O M hr1) (pv 4) (pv 0) (nomark _)) (pa_cons (pe_not (pe_cmpR (op_neM O M N hr2) (pv 0) (pv 4) (nomark _))) (pa_cons (pe_not (pe_cmpR (op_neM O M N hr2) (pv 4) (pv 0) (nomark _))) pa_nil))))))
          (pg_name (i := 5) scUl.nd rfl (Or.inl rfl))
          (pss_one (ps_if (pt_not (pt_val (pe_got GX hr (pa_cons (pv 5) (pa_cons pe_bl pa_nil))))) (pss_one (ps_ret pe_bl)) pss_nil))))))
      (pss_cons (ps_for PassesOwn.never rfl (pi_tup (pe_tup (pa_cons pe_non (pa_cons pe_int (pa_cons pe_bl (pa_cons pe_str (pa_cons (pe_lst pa_nil) (pa_cons (pe_tup pa_nil) (pa_cons pe_dnewK (pa_cons (pe_callTy call_list_of (by rfl) mLi (by decide +kernel) (pa_cons (pe_ix ix_list (pv 1) pe_int (fun _ _ => rfl)) pa_nil))
          (pa_cons (pe_lst (pa_cons (pe_ix ix_list (pv 1) pe_int (fun _ _ => rfl)) (pa_cons (pe_ix ix_list (pv 1) pe_int (fun _ _ => rfl)) (pa_cons (pe_ix ix_list (pv 1) pe_int (fun _ _ => rfl)) pa_nil))))
          (pa_cons (pe_tup (pa_cons (pe_ix ix_list (pv 1) pe_int (fun _ _ => rfl)) (pa_cons (pe_ix ix_list (pv 1) pe_int (fun _ _ => rfl)) (pa_cons (pe_ix ix_list (pv 1) pe_int (fun _ _ => rfl)) pa_nil)))) pa_nil))))))))))))
          (pg_name (i := 4) scUl.nd rfl (Or.inl rfl))
          (pss_one (ps_if (PW.pt (pw_or (pt_cmpR (op_eqM O M hr1) (pv 0) (pv 4) (nomark _)) (pw_or (pt_not (pt_cmpR (op_neM O M N hr2) (pv 0) (pv 4) (nomark _))) (pw_or1 (pt_cmpR (op_eqL O B hr1) (pv 4) (pv 0) (nomark _)))))) (pss_one (ps_ret pe_bl)) pss_nil)))
      (pss_one (ps_ret pe_bl)))), ?_⟩
    have oms : MOk (srtM ms) (srtW bs) (srtW es) := om.srt
    refine ⟨_, rfl, o, rfl, ⟨_, SqL.of ho⟩, ?_⟩
    refine for_list (K := K) (a := o) (xs := ys) (fun i σ H' => ∃ v3 v4 v5, σ = [some (.ref x), some (.ref a), some (.ref o), v3, v4, v5] ∧ Same H H') ⟨none, none, none, rfl, fun _ _ e => e⟩ (fun i σ H' _ ⟨_, _, _, _, sA⟩ => SqL.of (sA _ _ ho)) ?_ ?_
    · rintro i v σ H1 hv ⟨v3, v4, v5, rfl, sA⟩
      obtain ⟨l, lm, lb, le, ws, ns, cs, ds, rfl, h1, h2, h3, h4, h5, on, fn, fc, fs, n1, n2, n3, un⟩ := (hy v (List.mem_of_getElem? hv)).same sA
      have ons : MOk (srtM ns) (srtW cs) (srtW ds) := on.srt
      refine ⟨_, rfl, l, _, _, .ref lm, rfl, rfl, SqL.of h1, atI_nat (j := 0) rfl, lm, ws, rfl, .inl (SqL.of h2), fun p1 hp1 => ?_⟩
      obtain ⟨H2, e2, s2, g2⟩ : ∃ H2, H2 = upd H1 p1 (.lst ws) ∧ Same H1 H2 ∧ H2 p1 = some (.lst ws) := ⟨_, rfl, same_upd hp1, upd_same⟩
      rw [← e2]
      clear e2
      refine ⟨_, rfl, l, _, _, .ref lb, rfl, rfl, SqL.of (s2 _ _ h1), atI_nat (j := 1) rfl, lb, _, rfl, .inl (SqL.of (s2 _ _ h4)), fun p2 hp2 => ?_⟩
      obtain ⟨H3, e3, s3, g3⟩ : ∃ H3, H3 = upd H2 p2 (.lst (cs.map V.str)) ∧ Same H2 H3 ∧ H3 p2 = some (.lst (cs.map V.str)) := ⟨_, rfl, same_upd hp2, upd_same⟩
      rw [← e3]
      clear e3
      have s13 := s2.trans s3
      refine ⟨_, rfl, l, _, _, .ref le, rfl, rfl, SqL.of (s13 _ _ h1), atI_nat (j := 2) rfl, le, _, rfl, .inl (SqL.of (s13 _ _ h5)), fun p3 hp3 => ?_⟩
      obtain ⟨H4, e4, s4, g4⟩ : ∃ H4, H4 = upd H3 p3 (.lst (ds.map V.str)) ∧ Same H3 H4 ∧ H4 p3 = some (.lst (ds.map V.str)) := ⟨_, rfl, same_upd hp3, upd_same⟩
      rw [← e4]
      clear e4
      have s14 := s13.trans s4
      refine fun y dy hy1 hd1 ne => made (s4 _ _ (s3 _ _ g2)) (h3.same s14) (s4 _ _ g3) g4 on fn fc fs n1 n2 n3 hy1 hd1 ne fun H5 hm5 s5 => ⟨rfl, ?_⟩
      have s15 := s14.trans s5
      have sA5 := sA.trans s15
      have hx5 := hm.same sA5
      have d1 : decide (srtM ms = srtM ns ∧ srtW bs = srtW cs ∧ srtW es = srtW ds) = false := decide_eq_false un
      have d2 : decide (srtM ns = srtM ms ∧ srtW cs = srtW bs ∧ srtW ds = srtW es) = false := decide_eq_false fun z => un ⟨z.1.symm, z.2.1.symm, z.2.2.symm⟩
      refine ⟨_, rfl, _, rfl, x, _, _, _, rfl, hx5, oms, .inr ⟨y, _, _, _, rfl, hm5, ons, ?_⟩⟩
      rw [d1]
      refine ⟨_, rfl, _, rfl, y, _, _, _, rfl, hm5, ons, .inr ⟨x, _, _, _, rfl, hx5, oms, ?_⟩⟩
      rw [d2]
      refine ⟨_, rfl, _, rfl, x, _, _, _, rfl, hx5, oms, .inr ⟨y, _, _, _, rfl, hm5, ons, _, rfl, _, rfl, ?_⟩⟩
      rw [d1]
      refine ⟨_, rfl, _, rfl, y, _, _, _, rfl, hm5, ons, .inr ⟨x, _, _, _, rfl, hx5, oms, _, rfl, _, rfl, ?_⟩⟩
      rw [d2]
      refine ⟨(by show 4 ≤ sizeLine; decide), fun p4 hp4 => ?_⟩
      obtain ⟨H6, e6, s6, g6⟩ : ∃ H6, H6 = upd H5 p4 (.tup [.bl false, .bl false, .bl (!(!false)), .bl (!(!false))]) ∧ Same H5 H6 ∧ H6 p4 = some (.tup [.bl false, .bl false, .bl (!(!false)), .bl (!(!false))]) := ⟨_, rfl, same_upd hp4, upd_same⟩
      rw [← e6]
      clear e6
      refine ⟨p4, rfl, ⟨_, SqT.of g6⟩, ?_⟩
      have sA6 := sA5.trans s6
      refine for_tup (K := K) (a := p4) (xs := [.bl false, .bl false, .bl (!(!false)), .bl (!(!false))]) (fun i σ H' => ∃ v5, σ = [some (.ref x), some (.ref a), some (.ref o), some (.ref l), some (.ref y), v5] ∧ Same H6 H') ⟨v5, rfl, fun _ _ e => e⟩ (fun i σ H' _ ⟨_, _, sB⟩ => SqT.of (sB _ _ g6)) ?_ ?_
      · rintro k z σ H7 hz ⟨w5, rfl, sB⟩
        have ez : z = .bl false := by
          have hz' := List.mem_of_getElem? hz
          simp only [Bool.not_false, Bool.not_true, List.mem_cons, List.not_mem_nil, or_false, or_self] at hz'
          exact hz'
        subst ez
        refine ⟨_, rfl, _, _, rfl, .flat rfl, fun H8 s8 => ⟨true, rfl, iteF ?_⟩⟩
        exact ⟨_, rfl, sB.trans s8⟩
      · rintro σ H7 ⟨w5, rfl, sB⟩
        exact ⟨_, _, _, rfl, sA6.trans sB⟩
    · rintro σ H1 ⟨v3, v4, v5, rfl, sA⟩
      obtain ⟨lm, lb, le, lr, lj, ws, h1, h2, h3, h4, h5, h6, h7⟩ := hw.same sA
      refine ⟨(by show 0 ≤ sizeLine; decide), fun q1 hq1 => ?_⟩
      obtain ⟨H2, e2, s2, g2⟩ : ∃ H2, H2 = upd H1 q1 (.lst []) ∧ Same H1 H2 ∧ H2 q1 = some (.lst []) := ⟨_, rfl, same_upd hq1, upd_same⟩
      rw [← e2]
      clear e2
      refine ⟨(by show 0 ≤ sizeLine; decide), fun q2 hq2 => ?_⟩
      obtain ⟨H3, e3, s3, g3⟩ : ∃ H3, H3 = upd H2 q2 (.tup []) ∧ Same H2 H3 ∧ H3 q2 = some (.tup []) := ⟨_, rfl, same_upd hq2, upd_same⟩
      rw [← e3]
      clear e3
      refine fun q3 hq3 => ?_
      obtain ⟨H4, e4, s4, g4⟩ : ∃ H4, H4 = upd H3 q3 (.dK []) ∧ Same H3 H4 ∧ H4 q3 = some (.dK []) := ⟨_, rfl, same_upd hq3, upd_same⟩
      rw [← e4]
      clear e4
      have s14 := (s2.trans s3).trans s4
      refine ⟨_, rfl, a, _, _, .ref lm, rfl, rfl, SqL.of (s14 _ _ h1), atI_nat (j := 0) rfl, lm, ws, rfl, .inl (SqL.of (s14 _ _ h2)), fun q4 hq4 => ?_⟩
      obtain ⟨H5, e5, s5, g5⟩ : ∃ H5, H5 = upd H4 q4 (.lst ws) ∧ Same H4 H5 ∧ H5 q4 = some (.lst ws) := ⟨_, rfl, same_upd hq4, upd_same⟩
      rw [← e5]
      clear e5
      have s15 := s14.trans s5
      refine ⟨_, rfl, a, _, _, .ref lm, rfl, rfl, SqL.of (s15 _ _ h1), atI_nat (j := 0) rfl, _, rfl, a, _, _, .ref lb, rfl, rfl, SqL.of (s15 _ _ h1), atI_nat (j := 1) rfl, _, rfl, a, _, _, .ref le, rfl, rfl, SqL.of (s15 _ _ h1), atI_nat (j := 2) rfl, (by show 3 ≤ sizeLine; decide), fun q5 hq5 => ?_⟩
      obtain ⟨H6, e6, s6, g6⟩ : ∃ H6, H6 = upd H5 q5 (.lst [.ref lm, .ref lb, .ref le]) ∧ Same H5 H6 ∧ H6 q5 = some (.lst [.ref lm, .ref lb, .ref le]) := ⟨_, rfl, same_upd hq5, upd_same⟩
      rw [← e6]
      clear e6
      have s16 := s15.trans s6
      refine ⟨_, rfl, a, _, _, .ref lm, rfl, rfl, SqL.of (s16 _ _ h1), atI_nat (j := 0) rfl, _, rfl, a, _, _, .ref lb, rfl, rfl, SqL.of (s16 _ _ h1), atI_nat (j := 1) rfl, _, rfl, a, _, _, .ref le, rfl, rfl, SqL.of (s16 _ _ h1), atI_nat (j := 2) rfl, (by show 3 ≤ sizeLine; decide), fun q6 hq6 => ?_⟩
      obtain ⟨H7, e7, s7, g7⟩ : ∃ H7, H7 = upd H6 q6 (.tup [.ref lm, .ref lb, .ref le]) ∧ Same H6 H7 ∧ H7 q6 = some (.tup [.ref lm, .ref lb, .ref le]) := ⟨_, rfl, same_upd hq6, upd_same⟩
      rw [← e7]
      clear e7
      refine ⟨(by show 10 ≤ sizeLine; decide), fun p hp => ?_⟩
      obtain ⟨H8, e8, s8, g8⟩ : ∃ H8, H8 = upd H7 p (.tup [.non, .int 0, .bl true, .str "", .ref q1, .ref q2, .ref q3, .ref q4, .ref q5, .ref q6]) ∧ Same H7 H8 ∧ H8 p = some (.tup [.non, .int 0, .bl true, .str "", .ref q1, .ref q2, .ref q3, .ref q4, .ref q5, .ref q6]) := ⟨_, rfl, same_upd hp, upd_same⟩
      rw [← e8]
      clear e8
      refine ⟨p, rfl, ⟨_, SqT.of g8⟩, ?_⟩
      have s78 := s7.trans s8
      have s68 := s6.trans s78
      have s58 := s5.trans s68
      have s48 := s4.trans s58
      have s38 := s3.trans s48
      have s18 := s2.trans s38
      have all : ∀ z ∈ ([.non, .int 0, .bl true, .str "", .ref q1, .ref q2, .ref q3, .ref q4, .ref q5, .ref q6] : List V), Nm H8 z := by
        intro z hz
        simp only [List.mem_cons, List.not_mem_nil, or_false] at hz
        rcases hz with rfl | rfl | rfl | rfl | rfl | rfl | rfl | rfl | rfl | rfl
        · exact .inl rfl
        · exact .inr (.inr (.inl ⟨_, rfl⟩))
        · exact .inr (.inl ⟨_, rfl⟩)
        · exact .inr (.inr (.inr (.inl ⟨_, rfl⟩)))
        · exact .inr (.inr (.inr (.inr ⟨_, _, rfl, s38 _ _ g2, .inl ⟨_, rfl⟩⟩)))
        · exact .inr (.inr (.inr (.inr ⟨_, _, rfl, s48 _ _ g3, .inr (.inl ⟨_, rfl⟩)⟩)))
        · exact .inr (.inr (.inr (.inr ⟨_, _, rfl, s58 _ _ g4, .inr (.inr ⟨_, rfl⟩)⟩)))
        · exact .inr (.inr (.inr (.inr ⟨_, _, rfl, s68 _ _ g5, .inl ⟨_, rfl⟩⟩)))
        · exact .inr (.inr (.inr (.inr ⟨_, _, rfl, s78 _ _ g6, .inl ⟨_, rfl⟩⟩)))
        · exact .inr (.inr (.inr (.inr ⟨_, _, rfl, s8 _ _ g7, .inr (.inl ⟨_, rfl⟩)⟩)))
      have hm8 := hm.same (sA.trans s18)
      refine for_tup (K := K) (a := p) (xs := [.non, .int 0, .bl true, .str "", .ref q1, .ref q2, .ref q3, .ref q4, .ref q5, .ref q6]) (fun i σ H' => H' = H8 ∧ ∃ w4, σ = [some (.ref x), some (.ref a), some (.ref o), v3, w4, v5]) ⟨rfl, v4, rfl⟩ (fun i σ H' _ z => by rw [z.1]; exact SqT.of g8) ?_ ?_
      · rintro k z σ H9 hz ⟨rfl, w4, rfl⟩
        obtain ⟨T, mT, tb, nb, tx⟩ := (all z (List.mem_of_getElem? hz)).ty (K := K)
        refine ⟨_, rfl, _, rfl, x, _, _, _, rfl, hm8, oms, .inl ⟨_, tx, Z.k T mT, Z.f T mT, false, rfl, iteF ?_⟩⟩
        refine ⟨_, rfl, _, rfl, x, _, _, _, rfl, hm8, oms, .inl ⟨_, tx, Z.k T mT, Z.f T mT, false, rfl, _, rfl, ?_⟩⟩
        refine iteF ?_
        refine ⟨_, rfl, _, rfl, x, _, _, _, T, rfl, hm8, oms, tb, nb, ⟨_, tx, Z.k T mT⟩, false, rfl, ?_⟩
        exact iteF ⟨rfl, _, rfl⟩
      · rintro σ H9 ⟨rfl, w4, rfl⟩
        exact q _ (sA.trans s18)
end
end L2.K03
set_option Elab.async false
set_option linter.all false
set_option maxRecDepth 100000
set_option maxHeartbeats 4000000
namespace L2.K03
open PySem PySem.Spec PyProof.Rows L2.EV L2
/-! ### manners_at tells what the world says -/
abbrev sAr : Stmt := top 54
abbrev pAr : List Str := ["_law_made", "_law_world_here"]
abbrev nAr : List Str := ["_law_made", "_law_world_here", "_law_room", "_law_job", "_law_due", "_law_manner_here", "_law_told_here", "_law_strange", "_law_word_here", "_law_odd"]
theorem scAr : FnScope nAr pAr (defScope sAr) := ⟨rfl, rfl, rfl, by decide +kernel, rfl, by decide +kernel, by decide +kernel⟩
abbrev kAr : List Str := ["job", "manual", "room"]
def roAr {α : Type} : List α → List α
  | [j, m, r] => [m, r, j]
  | l => l
def spAr (K : PySem.W.Frag) : Sp := fun vs H Q _ => ∃ (x a : Addr) (ms : List Mn) (bs es rs js : List Str), vs = [.ref x, .ref a] ∧ ManuAt K H x (srtM ms) (srtW bs) (srtW es) ∧ MOk ms bs es ∧ WdAt H a ms bs es rs js ∧ Few ms bs es ∧ (∀ x ∈ rs, Word x) ∧ (∀ x ∈ js, Word x) ∧ rs.length ≤ 100 ∧ js.length ≤ 100 ∧ ∀ H', Same H H' → Q (.bl true) H'
/-- no word, and like itself -/
def Odd (H : Hp) (z : V) : Prop := (∃ y, z = .str y ∧ y.length ≤ sizeLine ∧ wordB y = false) ∨ z = .non ∨ (∃ i, z = .int i) ∨ (∃ b, z = .bl b) ∨ ∃ a, z = .ref a ∧ (H a = some (.lst [.str "a"]) ∨ H a = some (.tup [.str "a"]) ∨ H a = some (.dK []))
theorem Odd.same {H H' : Hp} {z : V} (h : Odd H z) (s : Same H H') : Odd H' z := by
  rcases h with h | h | h | h | ⟨a, e, h | h | h⟩
  · exact .inl h
  · exact .inr (.inl h)
  · exact .inr (.inr (.inl h))
  · exact .inr (.inr (.inr (.inl h)))
  · exact .inr (.inr (.inr (.inr ⟨a, e, .inl (s _ _ h)⟩)))
  · exact .inr (.inr (.inr (.inr ⟨a, e, .inr (.inl (s _ _ h))⟩)))
  · exact .inr (.inr (.inr (.inr ⟨a, e, .inr (.inr (s _ _ h))⟩)))
theorem self_str {K : PySem.W.Frag} {H : Hp} (y : Str) : Self K H (.str y) := ⟨fun _ _ => .flat rfl, .inl ⟨_, .base (.str y), fun _ _ => .base (.str y), kit_ty (by decide +kernel)⟩⟩
theorem alm_a {K : PySem.W.Frag} {H : Hp} {i : Nat} {x y : V} (p : [V.str "a"][i]? = some x) (q : [V.str "a"][i]? = some y) : Alm K H 5 x y := by
  rw [p] at q
  cases q
  match i, p with
  | 0, p => cases p; exact .flat rfl
  | n + 1, p => cases p
theorem Odd.self {K : PySem.W.Frag} {H : Hp} {z : V} (h : Odd H z) : Self K H z := by
  rcases h with ⟨y, rfl, _⟩ | rfl | ⟨i, rfl⟩ | ⟨b, rfl⟩ | ⟨a, rfl, h | h | h⟩
  · exact self_str y
  · exact ⟨fun _ _ => .flat rfl, .inl ⟨_, .base .non, fun _ _ => .base .non, kit_ty (by decide +kernel)⟩⟩
  · exact ⟨fun _ _ => .flat rfl, .inl ⟨_, .base (.int i), fun _ _ => .base (.int i), kit_ty (by decide +kernel)⟩⟩
  · exact ⟨fun _ _ => .flat rfl, .inl ⟨_, .base (.bl b), fun _ _ => .base (.bl b), kit_ty (by decide +kernel)⟩⟩
  · refine ⟨fun H' s => .lst (s _ _ h) (s _ _ h) rfl (by decide) fun i x y p q => alm_a p q, .inr ⟨a, _, rfl, h, by decide, fun x hx H' _ => ?_⟩⟩
    rw [List.mem_singleton.mp hx]
    exact .flat rfl
  · exact ⟨fun H' s => .tup (s _ _ h) (s _ _ h) rfl (by decide) fun i x y p q => alm_a p q, .inl ⟨_, .base (.tup h), fun H' s => .base (.tup (s _ _ h)), kit_ty (by decide +kernel)⟩⟩
  · exact ⟨fun H' s => .dct (s _ _ h) (s _ _ h) (by decide) fun p hp => (List.not_mem_nil hp).elim, .inl ⟨_, .base (.dK h), fun H' s => .base (.dK (s _ _ h)), kit_ty (by decide +kernel)⟩⟩
theorem Odd.wd {K : PySem.W.Frag} {H : Hp} {z : V} (h : Odd H z) : WdF K H z false := by
  rcases h with ⟨y, rfl, l, w⟩ | rfl | ⟨i, rfl⟩ | ⟨b, rfl⟩ | ⟨a, rfl, h | h | h⟩
  · rw [← w]
    exact .str l
  · exact .oth (fun _ _ => .base .non) (kit_ty (by decide +kernel))
  · exact .oth (fun _ _ => .base (.int i)) (kit_ty (by decide +kernel))
  · exact .oth (fun _ _ => .base (.bl b)) (kit_ty (by decide +kernel))
  · exact .oth (fun H' s => .base (.lst (s _ _ h))) (kit_ty (by decide +kernel))
  · exact .oth (fun H' s => .base (.tup (s _ _ h))) (kit_ty (by decide +kernel))
  · exact .oth (fun H' s => .base (.dK (s _ _ h))) (kit_ty (by decide +kernel))
theorem inV_mem (z : Str) (L : List Str) : inV (.str z) (L.map V.str) = decide (z ∈ L) := by
  rw [inV_str, Bool.eq_iff_iff, List.any_eq_true, decide_eq_true_iff]
  constructor
  · rintro ⟨y, hy, e⟩
    rw [← eq_of_beq e]
    exact hy
  · exact fun hz => ⟨z, hz, beq_self_eq_true z⟩
theorem wzz : Word "zzzzzzzz" := ⟨⟨by decide +kernel, by decide +kernel⟩, by decide +kernel⟩
theorem dec_s (a b : Str) : decide (V.str a = V.str b) = (a == b) := by
  rw [Bool.eq_iff_iff]
  simp
section
variable {P : Program} {w : World} {K : PySem.W.Frag} {mg : Str → Option Value} {base : Heap} {f : Addr} {fd : FuncData}
abbrev tNo : TS := tRet (tC (.bl false))
theorem ok_atr (F : FnP K "_law_at_right" sAr f fd) (C : Mc K) (M : My K) (GL : Got P w K mg base 1 "_law_rooms" ["_law_world_here"] spLR) (GA : GotX P w K mg base 4 "manners_at" pMA (spMA K)) (GAk : GotK P w K mg base (L2.CX P w) 4 "manners_at" pMA kAr roAr (spMA K))
    (GX : Got P w K mg base 5 "_law_exact" pEx (spEx 4)) (GV : Got P w K mg base 9 "_law_very" pVy (spVy K)) (GT : Got P w K mg base 7 "_law_told" pTd (spTd K)) (mSo : mg "sorted" = none) : FnOk P w K mg base CX0 10 f fd pAr (spAr K) := by
  refine F.ok scAr (fun vs H Q E h => ?_) (fun cdv A outer s H vs Q E hr h => ?_)
  · obtain ⟨x, a, ms, bs, es, rs, js, rfl, _⟩ := h
    rfl
  · obtain ⟨x, a, ms, bs, es, rs, js, rfl, hm, om, hw, fw, wr, wj, lrs, ljs, q⟩ := h
    have hu := hr.units
    refine ⟨_, PSs.nox (pss_cons (ps_for PassesOwn.never rfl (pi_list (pe_got GL hr (pa_cons (pv 1) pa_nil))) (pg_name (i := 2) scAr.nd rfl (Or.inr rfl))
        (pss_one (ps_for PassesOwn.never rfl (pi_list (pe_op op_cat (pe_ix ix_list (pv 1) pe_int (fun _ _ => rfl)) (pe_lst (pa_cons (pv 2) (pa_cons pe_str pa_nil))))) (pg_name (i := 3) scAr.nd rfl (Or.inr rfl))
          (pss_cons (ps_set (i := 4) scAr.nd rfl (Or.inl rfl) (pe_callB (cr_sortedDp hu) (by rfl) mSo (by decide +kernel) (pa_cons
              (pe_lc (own := [("_law_manner_here", 5)]) (g := gName 5) (tt := tAnd (tTest (tOp rEq (tOp (rIxT K) (tVar 5) (tC (.int 0))) (tVar 2))) (tTest (tOp rEq (tOp (rIxT K) (tVar 5) (tC (.int 1))) (tVar 3)))) (te := tVar 5) (by rfl) scAr.nd (pi_list (pe_ix ix_list (pv 1) pe_int (fun _ _ => rfl))) (blkOk_by (own := [("_law_manner_here", 5)]) (N := nAr) (sc := defScope sAr) (by decide +kernel))
                (fun _ _ _ _ _ => pg_name (i := 5) scAr.nd rfl (Or.inl rfl)) (fun _ _ _ _ _ => pts_one (PW.pt (pw_and (pt_cmpR op_eq (pe_ix ix_tup (pv 5) pe_int (fun _ _ => rfl)) (pv 2) (nomark _)) (pw_and1 (pt_cmpR op_eq (pe_ix ix_tup (pv 5) pe_int (fun _ _ => rfl)) (pv 3) (nomark _)))))) (fun _ _ _ _ _ => pv 5)) pa_nil)))
          (pss_cons (ps_set (i := 6) scAr.nd rfl (Or.inl rfl) (pe_gotF GA hr (pa_cons (pv 0) (pa_cons (pv 2) (pa_cons (pv 3) pa_nil)))))
          (pss_cons (ps_if (pt_not (pt_val (pe_got GX hr (pa_cons (pv 6) (pa_cons (pv 4) pa_nil))))) (pss_one (ps_ret pe_bl)) pss_nil)
          (pss_cons (ps_expr (pe_bm PySem.F.plainAttrs_list PySem.F.slot_list_append PySem.F.type_list_append mt_append (pv 6) (pa_cons pe_non pa_nil)))
          (pss_one (ps_if (pt_not (pt_val (pe_got GX hr (pa_cons (pe_gotK GAk hr passF (pk_cons (pv 3) (pk_cons (pv 0) (pk_cons (pv 2) pk_nil)))) (pa_cons (pv 4) pa_nil))))) (pss_one (ps_ret pe_bl)) pss_nil)))))))))
      (pss_cons (ps_setLc (i := 7) (own := [("_law_word_here", 8)]) (g := gName 8) (tt := tTest (tOp (rIn K true) (tVar 8) (tCall spLR [] E0 (tCons (tVar 1) tNil)))) (te := tVar 8) (by rfl) scAr.nd rfl rfl (by rfl) (pi_list (pe_op op_cat (pe_op op_cat (pe_ix ix_list (pv 1) pe_int (fun _ _ => rfl)) (pe_ix ix_list (pv 1) pe_int (fun _ _ => rfl))) (pe_lst (pa_cons pe_str pa_nil)))) (blkOk_by (own := [("_law_word_here", 8)]) (N := nAr) (sc := defScope sAr) (by decide +kernel))
          (fun _ _ _ _ _ => pg_name (i := 8) scAr.nd rfl (Or.inl rfl)) (fun _ _ _ _ _ => pts_one (pt_cmpR op_notIn_seq (pv 8) (pe_got GL hr (pa_cons (pv 1) pa_nil)) (by rfl))) (fun _ _ _ _ _ => pv 8))
      (pss_cons (ps_for PassesOwn.never rfl (pi_list (pe_op op_cat (pv 7) (pe_lst (pa_cons pe_str (pa_cons pe_str (pa_cons pe_non (pa_cons pe_int (pa_cons pe_bl (pa_cons (pe_lst (pa_cons pe_str pa_nil)) (pa_cons (pe_tup (pa_cons pe_str pa_nil)) (pa_cons pe_dnewK pa_nil))))))))))) (pg_name (i := 9) scAr.nd rfl (Or.inl rfl)) (pss_one (ps_if (pt_not (pt_val (pe_got GV hr (pa_cons (pe_got GT hr (pa_cons pe_str (pa_cons (pe_lst (pa_cons (pv 0) (pa_cons (pv 9) (pa_cons pe_non pa_nil)))) pa_nil))) (pa_cons pe_str (pa_cons (pv 9) pa_nil)))))) (pss_one (ps_ret pe_bl)) pss_nil)))
      (pss_cons (ps_for PassesOwn.never rfl (pi_list (pe_slice sl_list (pe_got GL hr (pa_cons (pv 1) pa_nil)) po_none (po_some pe_int))) (pg_name (i := 2) scAr.nd rfl (Or.inr rfl))
          (pss_one (ps_for PassesOwn.never rfl (pi_tup (pe_tup (pa_cons pe_str (pa_cons pe_str (pa_cons pe_str (pa_cons pe_str (pa_cons pe_non (pa_cons pe_int (pa_cons pe_bl (pa_cons (pe_lst (pa_cons pe_str pa_nil)) (pa_cons (pe_tup (pa_cons pe_str pa_nil)) (pa_cons pe_dnewK pa_nil)))))))))))) (pg_name (i := 9) scAr.nd rfl (Or.inl rfl)) (pss_one (ps_if (pt_not (pt_val (pe_got GV hr (pa_cons (pe_got GT hr (pa_cons pe_str (pa_cons (pe_lst (pa_cons (pv 0) (pa_cons (pv 2) (pa_cons (pv 9) pa_nil)))) pa_nil))) (pa_cons pe_str (pa_cons (pv 9) pa_nil)))))) (pss_one (ps_ret pe_bl)) pss_nil)))))
      (pss_one (ps_ret pe_bl)))))), ?_⟩
    have oms : MOk (srtM ms) (srtW bs) (srtW es) := om.srt
    have fws := few_srt fw
    have memS : ∀ z, z ∈ roomsL (srtM ms) (srtW bs) (srtW es) ↔ z ∈ roomsL ms bs es := fun z => by rw [← setW_mem, rooms_srt, setW_mem]
    have rmW : ∀ z ∈ roomsL ms bs es, Word z := fun z hz => by
      unfold roomsL at hz
      simp only [List.mem_append, List.mem_flatMap, List.mem_cons, List.not_mem_nil, or_false] at hz
      rcases hz with (hz | hz) | ⟨m, hm1, rfl | rfl⟩
      · exact om.b z hz
      · exact om.e z hz
      · exact (om.m m hm1).r
      · exact (om.m m hm1).s
    refine ⟨_, rfl, a, ms, bs, es, rs, js, rfl, hw, fw, fun p1 H1 s1 hp1 g1 => ?_⟩
    refine ⟨p1, rfl, ⟨_, SqL.of g1⟩, ?_⟩
    refine for_list (K := K) (a := p1) (xs := (setW (roomsL ms bs es)).map V.str) (fun i σ H' => ∃ v2 v3 v4 v5 v6 v7 v8 v9, σ = [some (.ref x), some (.ref a), v2, v3, v4, v5, v6, v7, v8, v9] ∧ Same H1 H') ⟨_, _, _, _, _, _, _, _, rfl, fun _ _ e => e⟩ (fun i σ H' _ ⟨_, _, _, _, _, _, _, _, _, sA⟩ => SqL.of (sA _ _ g1)) ?_ ?_
    · rintro i v σ H2 hv ⟨v2, v3, v4, v5, v6, v7, v8, v9, rfl, sA⟩
      obtain ⟨r, hr1, rfl⟩ := item_str hv
      have mr := setW_mem.mp hr1
      have Wr := rmW r mr
      have s2 := s1.trans sA
      obtain ⟨lm, lb, le, lr, lj, ws, h1, h2, h3, h4, h5, h6, h7⟩ := hw.same s2
      refine ⟨_, rfl, a, _, _, .ref lj, rfl, rfl, SqL.of h1, atI_nat (j := 4) rfl, _, rfl, (by show 2 ≤ sizeLine; decide), fun p2 hp2 => ?_⟩
      obtain ⟨H3, e3, s3, g3⟩ : ∃ H3, H3 = upd H2 p2 (.lst [.str r, .str "zzzzzzzz"]) ∧ Same H2 H3 ∧ H3 p2 = some (.lst [.str r, .str "zzzzzzzz"]) := ⟨_, rfl, same_upd hp2, upd_same⟩
      rw [← e3]
      clear e3
      refine ⟨lj, p2, _, _, rfl, rfl, s3 _ _ h7, g3, (by rw [List.length_map, sizeLine_eq]; show js.length + 2 ≤ _; omega), fun p3 hp3 => ?_⟩
      obtain ⟨H4, e4, s4, g4⟩ : ∃ H4, H4 = upd H3 p3 (.lst (js.map V.str ++ [.str r, .str "zzzzzzzz"])) ∧ Same H3 H4 ∧ H4 p3 = some (.lst (js.map V.str ++ [.str r, .str "zzzzzzzz"])) := ⟨_, rfl, same_upd hp3, upd_same⟩
      rw [← e4]
      clear e4
      have s24 := s3.trans s4
      have sH4 := s2.trans s24
      refine ⟨p3, rfl, ⟨_, SqL.of g4⟩, ?_⟩
      refine for_list (K := K) (a := p3) (xs := js.map V.str ++ [.str r, .str "zzzzzzzz"]) (fun i σ H' => ∃ v3 v4 v5 v6 v7 v8 v9, σ = [some (.ref x), some (.ref a), some (.str r), v3, v4, v5, v6, v7, v8, v9] ∧ Same H4 H') ⟨_, _, _, _, _, _, _, rfl, fun _ _ e => e⟩ (fun i σ H' _ ⟨_, _, _, _, _, _, _, _, sB⟩ => SqL.of (sB _ _ g4)) ?_ ?_
      · rintro k u σ H5 hu1 ⟨w3, w4, w5, w6, w7, w8, w9, rfl, sB⟩
        obtain ⟨j, Wj, rfl⟩ : ∃ j, Word j ∧ u = .str j := by
          rcases List.mem_append.mp (List.mem_of_getElem? hu1) with hj | hj
          · obtain ⟨y, hy, ey⟩ := List.mem_map.mp hj
            exact ⟨y, wj y hy, ey.symm⟩
          · simp only [List.mem_cons, List.not_mem_nil, or_false] at hj
            rcases hj with rfl | rfl
            · exact ⟨r, Wr, rfl⟩
            · exact ⟨"zzzzzzzz", wzz, rfl⟩
        have sH5 := sH4.trans sB
        obtain ⟨lm, lb, le, lr, lj, ws, h1, h2, h3, h4, h5, h6, h7⟩ := hw.same sH5
        have hm5 := hm.same sH5
        refine ⟨_, rfl, a, _, _, .ref lm, rfl, rfl, SqL.of h1, atI_nat (j := 0) rfl, lm, rfl, ⟨_, SqL.of h2⟩, fun D hD => ?_⟩
        refine lc_list (K := K) (a := lm) (xs := ws) (fun i H' => ∃ zs, Same H5 H' ∧ H' D = some (.lst zs) ∧ Mans H' zs (atL (ms.take i) r j) ∧ zs.length ≤ i) ⟨[], same_upd hD, upd_same, by rw [List.take_zero]; exact Mans.nil, Nat.le_refl _⟩ (fun i H' _ ⟨_, sC, _⟩ => SqL.of (sC _ _ h2)) ?_ ?_
        · rintro i v H' hv ⟨zs, sC, gD, hz', lz'⟩
          have li : i < ms.length := by
            have := (List.getElem?_eq_some_iff.mp hv).1
            rw [h3.1] at this
            exact this
          obtain ⟨m, em⟩ : ∃ m, ms[i]? = some m := ⟨_, List.getElem?_eq_getElem li⟩
          obtain ⟨b, t, rfl, ga, gt⟩ := (h3.2 i v m hv em).same sC
          have et : ms.take (i + 1) = ms.take i ++ [m] := by rw [List.take_succ, em]; rfl
          have at2 : atL (ms.take (i + 1)) r j = if (m.r == r && m.j == j) = true then atL (ms.take i) r j ++ [m] else atL (ms.take i) r j := by
            rw [et]
            unfold atL
            rw [List.filter_append, List.filter_cons, List.filter_nil]
            split
            · rfl
            · rw [List.append_nil]
          have no : (m.r == r && m.j == j) = false → ∃ zs, Same H5 H' ∧ H' D = some (.lst zs) ∧ Mans H' zs (atL (ms.take (i + 1)) r j) ∧ zs.length ≤ i + 1 := fun hb => by
            rw [hb, if_neg Bool.false_ne_true] at at2
            exact ⟨zs, sC, gD, by rw [at2]; exact hz', by omega⟩
          refine ⟨rfl, _, rfl, b, _, _, .str m.r, rfl, rfl, SqT.of ga, atI_nat (j := 0) rfl, _, rfl, rfl, _, rfl, ?_⟩
          rw [dec_s]
          cases hb1 : (m.r == r) with
          | false => exact iteF (iteF (no (by rw [hb1]; rfl)))
          | true =>
            refine iteT ?_
            refine ⟨_, rfl, b, _, _, .str m.j, rfl, rfl, SqT.of ga, atI_nat (j := 1) rfl, _, rfl, rfl, _, rfl, ?_⟩
            rw [dec_s]
            cases hb2 : (m.j == j) with
            | false => exact iteF (no (by rw [hb1, hb2]; rfl))
            | true =>
              refine iteT ?_
              rw [hb1, hb2, Bool.and_self, if_pos rfl] at at2
              refine ⟨_, rfl, zs, gD, small1000 (by have := fw.m; omega), zs ++ [.ref b], fun c o e => ?_, upd_same, ?_, by rw [List.length_append]; exact Nat.succ_le_succ lz'⟩
              · rw [upd_ne (ne_of_none e hD)]
                exact sC _ _ e
              · rw [at2]
                exact (hz'.snoc ⟨b, t, rfl, ga, gt⟩).upd gD
        · rintro H6 ⟨zs, sC, gD, hz, lz⟩
          rw [h3.1, List.take_length] at hz
          have lr8 : r.length ≤ sizeLine := by have := Wr.1.2; rw [sizeLine_eq]; omega
          have la : (srtM (atL ms r j)).length ≤ 900 := by
            rw [(srtM_perm _).length_eq]
            have := List.length_filter_le (fun m : Mn => m.r == r && m.j == j) ms
            have := fw.m
            unfold atL
            omega
          dsimp only [tNil]
          refine sortM (SqL.of gD) hz fun p5 ys5 hp5 hy5 => ?_
          obtain ⟨H7, e7, s7, g7⟩ : ∃ H7, H7 = upd H6 p5 (.lst ys5) ∧ Same H6 H7 ∧ H7 p5 = some (.lst ys5) := ⟨_, rfl, same_upd hp5, upd_same⟩
          rw [← e7]
          clear e7
          have hy5 := hy5.same s7
          have s57 := sC.trans s7
          have hm7 := hm5.same s57
          refine ⟨_, rfl, _, rfl, _, rfl, .ref x, .str r, .str j, rfl, .inr ⟨x, srtM ms, srtW bs, srtW es, rfl, hm7, fws, .inr ⟨r, rfl, lr8, Wr.form, .inr ⟨(memS r).mpr mr, .inr ⟨j, rfl, Wr, Wj, oms.m, fun p6 ys6 H8 s8 hp6 g6 hy6 => ?_⟩⟩⟩⟩⟩
          rw [at_srt] at hy6
          refine ⟨_, rfl, _, rfl, .ref p6, .ref p5, rfl, alk_mns g6 (s8 _ _ g7) hy6 (hy5.same s8) la, fun H9 s9 => ⟨true, rfl, iteF ?_⟩⟩
          refine ⟨_, rfl, .inl ⟨rfl, _, SqL.of (s9 _ _ g6)⟩, p6, ys6, _, rfl, rfl, s9 _ _ g6, small1000 (by rw [hy6.1]; omega), ?_⟩
          have s70 : Same H7 (upd H9 p6 (.lst (ys6 ++ [.non]))) := fun c o e => by
            rw [upd_ne (ne_of_none e hp6)]
            exact s9 _ _ (s8 _ _ e)
          generalize upd H9 p6 (.lst (ys6 ++ [.non])) = H10 at s70
          refine ⟨_, rfl, _, rfl, _, rfl, rfl, .ref x, .str r, .str j, rfl, .inr ⟨x, srtM ms, srtW bs, srtW es, rfl, hm7.same s70, fws, .inr ⟨r, rfl, lr8, Wr.form, .inr ⟨(memS r).mpr mr, .inr ⟨j, rfl, Wr, Wj, oms.m, fun p7 ys7 H11 s11 hp7 g8 hy7 => ?_⟩⟩⟩⟩⟩
          rw [at_srt] at hy7
          refine ⟨_, rfl, .ref p7, .ref p5, rfl, alk_mns g8 (s11 _ _ (s70 _ _ g7)) hy7 ((hy5.same s70).same s11) la, fun H12 s12 => ⟨true, rfl, iteF ?_⟩⟩
          exact ⟨_, _, _, _, _, _, _, rfl, sB.trans (s57.trans (s70.trans (s11.trans s12)))⟩
      · rintro σ H5 ⟨w3, w4, w5, w6, w7, w8, w9, rfl, sB⟩
        exact ⟨_, _, _, _, _, _, _, _, rfl, sA.trans (s24.trans sB)⟩
    · rintro σ H2 ⟨v2, v3, v4, v5, v6, v7, v8, v9, rfl, sA⟩
      have s2 := s1.trans sA
      obtain ⟨lm, lb, le, lr, lj, ws, h1, h2, h3, h4, h5, h6, h7⟩ := hw.same s2
      refine ⟨_, rfl, a, _, _, .ref lr, rfl, rfl, SqL.of h1, atI_nat (j := 3) rfl, _, rfl, a, _, _, .ref lj, rfl, rfl, SqL.of h1, atI_nat (j := 4) rfl, lr, lj, _, _, rfl, rfl, h6, h7, (by rw [List.length_map, List.length_map, sizeLine_eq]; omega), fun q1 hq1 => ?_⟩
      obtain ⟨H3, e3, s3, g3⟩ : ∃ H3, H3 = upd H2 q1 (.lst (rs.map V.str ++ js.map V.str)) ∧ Same H2 H3 ∧ H3 q1 = some (.lst (rs.map V.str ++ js.map V.str)) := ⟨_, rfl, same_upd hq1, upd_same⟩
      rw [← e3]
      clear e3
      refine ⟨(by show 1 ≤ sizeLine; decide), fun q2 hq2 => ?_⟩
      obtain ⟨H4, e4, s4, g4⟩ : ∃ H4, H4 = upd H3 q2 (.lst [.str "zzzzzzzz"]) ∧ Same H3 H4 ∧ H4 q2 = some (.lst [.str "zzzzzzzz"]) := ⟨_, rfl, same_upd hq2, upd_same⟩
      rw [← e4]
      clear e4
      refine ⟨q1, q2, _, _, rfl, rfl, s4 _ _ g3, g4, (by rw [List.length_append, List.length_map, List.length_map, sizeLine_eq]; show rs.length + js.length + 1 ≤ _; omega), fun q3 hq3 => ?_⟩
      obtain ⟨H5, e5, s5, g5⟩ : ∃ H5, H5 = upd H4 q3 (.lst (rs.map V.str ++ js.map V.str ++ [.str "zzzzzzzz"])) ∧ Same H4 H5 ∧ H5 q3 = some (.lst (rs.map V.str ++ js.map V.str ++ [.str "zzzzzzzz"])) := ⟨_, rfl, same_upd hq3, upd_same⟩
      rw [← e5]
      clear e5
      have s25 := (s3.trans s4).trans s5
      have sH5 := s2.trans s25
      refine ⟨q3, rfl, ⟨_, SqL.of g5⟩, fun D hD => ?_⟩
      refine lc_list (K := K) (a := q3) (xs := rs.map V.str ++ js.map V.str ++ [.str "zzzzzzzz"]) (fun i H' => ∃ zs : List Str, Same H5 H' ∧ H' D = some (.lst (zs.map V.str)) ∧ (∀ z ∈ zs, Word z ∧ z ∉ roomsL ms bs es) ∧ zs.length ≤ i) ⟨[], same_upd hD, upd_same, fun z hz => (List.not_mem_nil hz).elim, Nat.le_refl _⟩ (fun i H' _ ⟨_, sC, _⟩ => SqL.of (sC _ _ g5)) ?_ ?_
      · rintro i v H' hv ⟨zs, sC, gD, hz, lz⟩
        have li : i < 201 := by
          have := (List.getElem?_eq_some_iff.mp hv).1
          rw [List.length_append, List.length_append, List.length_map, List.length_map] at this
          have : i < rs.length + js.length + 1 := this
          omega
        obtain ⟨y, Wy, rfl⟩ : ∃ y, Word y ∧ v = .str y := by
          rcases List.mem_append.mp (List.mem_of_getElem? hv) with hj | hj
          · rcases List.mem_append.mp hj with hj | hj
            · obtain ⟨y, hy, ey⟩ := List.mem_map.mp hj
              exact ⟨y, wr y hy, ey.symm⟩
            · obtain ⟨y, hy, ey⟩ := List.mem_map.mp hj
              exact ⟨y, wj y hy, ey.symm⟩
          · exact ⟨"zzzzzzzz", wzz, List.mem_singleton.mp hj⟩
        refine ⟨rfl, _, rfl, _, rfl, a, ms, bs, es, rs, js, rfl, hw.same (sH5.trans sC), fw, fun p H6 s6 hp g6 => ?_⟩
        refine ⟨p, _, rfl, .inl (SqL.of g6), rfl, flat_strs _, _, rfl, ?_⟩
        rw [inV_mem]
        by_cases hy : y ∈ setW (roomsL ms bs es)
        · rw [decide_eq_true hy]
          exact iteF ⟨zs, sC.trans s6, s6 _ _ gD, hz, by omega⟩
        · rw [decide_eq_false hy]
          refine iteT ⟨_, rfl, zs.map V.str, s6 _ _ gD, small1000 (by rw [List.length_map]; omega), zs ++ [y], fun c o e => ?_, ?_, fun z hz' => ?_, by rw [List.length_append]; exact Nat.succ_le_succ lz⟩
          · rw [upd_ne (ne_of_none e hD)]
            exact s6 _ _ (sC _ _ e)
          · rw [upd_same, List.map_append]
            rfl
          · rcases List.mem_append.mp hz' with hz' | hz'
            · exact hz z hz'
            · rw [List.mem_singleton.mp hz']
              exact ⟨Wy, fun hm => hy (setW_mem.mpr hm)⟩
      · rintro H6 ⟨zs, sC, gD, hz, lz⟩
        have s26 := s25.trans sC
        have sH6 := s2.trans s26
        refine ⟨_, rfl, (by show 1 ≤ sizeLine; decide), fun q4 hq4 => ?_⟩
        obtain ⟨H7, e7, s7, g7⟩ : ∃ H7, H7 = upd H6 q4 (.lst [.str "a"]) ∧ Same H6 H7 ∧ H7 q4 = some (.lst [.str "a"]) := ⟨_, rfl, same_upd hq4, upd_same⟩
        rw [← e7]
        clear e7
        refine ⟨(by show 1 ≤ sizeLine; decide), fun q5 hq5 => ?_⟩
        obtain ⟨H8, e8, s8, g8⟩ : ∃ H8, H8 = upd H7 q5 (.tup [.str "a"]) ∧ Same H7 H8 ∧ H8 q5 = some (.tup [.str "a"]) := ⟨_, rfl, same_upd hq5, upd_same⟩
        rw [← e8]
        clear e8
        refine fun q6 hq6 => ?_
        obtain ⟨H9, e9, s9, g9⟩ : ∃ H9, H9 = upd H8 q6 (.dK []) ∧ Same H8 H9 ∧ H9 q6 = some (.dK []) := ⟨_, rfl, same_upd hq6, upd_same⟩
        rw [← e9]
        clear e9
        refine ⟨(by show 8 ≤ sizeLine; decide), fun q7 hq7 => ?_⟩
        obtain ⟨HA, eA, sA1, gA⟩ : ∃ HA, HA = upd H9 q7 (.lst [.str "", .str "A", .non, .int 1, .bl true, .ref q4, .ref q5, .ref q6]) ∧ Same H9 HA ∧ HA q7 = some (.lst [.str "", .str "A", .non, .int 1, .bl true, .ref q4, .ref q5, .ref q6]) := ⟨_, rfl, same_upd hq7, upd_same⟩
        rw [← eA]
        clear eA
        have s6A := ((s7.trans s8).trans s9).trans sA1
        refine ⟨D, q7, _, _, rfl, rfl, s6A _ _ gD, gA, (by
          rw [List.length_append, List.length_append, List.length_map, List.length_map] at lz
          have lz : zs.length ≤ rs.length + js.length + 1 := lz
          rw [List.length_map, sizeLine_eq]
          show zs.length + 8 ≤ _
          omega), fun q8 hq8 => ?_⟩
        obtain ⟨HB, eB, sB1, gB⟩ : ∃ HB, HB = upd HA q8 (.lst (zs.map V.str ++ [.str "", .str "A", .non, .int 1, .bl true, .ref q4, .ref q5, .ref q6])) ∧ Same HA HB ∧ HB q8 = some (.lst (zs.map V.str ++ [.str "", .str "A", .non, .int 1, .bl true, .ref q4, .ref q5, .ref q6])) := ⟨_, rfl, same_upd hq8, upd_same⟩
        rw [← eB]
        clear eB
        have sHB := sH6.trans (s6A.trans sB1)
        have odd : ∀ z ∈ ([.str "", .str "A", .non, .int 1, .bl true, .ref q4, .ref q5, .ref q6] : List V), Odd HB z := by
          intro z hz
          simp only [List.mem_cons, List.not_mem_nil, or_false] at hz
          rcases hz with rfl | rfl | rfl | rfl | rfl | rfl | rfl | rfl
          · exact .inl ⟨_, rfl, by decide +kernel, by decide +kernel⟩
          · exact .inl ⟨_, rfl, by decide +kernel, by decide +kernel⟩
          · exact .inr (.inl rfl)
          · exact .inr (.inr (.inl ⟨_, rfl⟩))
          · exact .inr (.inr (.inr (.inl ⟨_, rfl⟩)))
          · exact .inr (.inr (.inr (.inr ⟨_, rfl, .inl (sB1 _ _ (sA1 _ _ (s9 _ _ (s8 _ _ g7))))⟩)))
          · exact .inr (.inr (.inr (.inr ⟨_, rfl, .inr (.inl (sB1 _ _ (sA1 _ _ (s9 _ _ g8))))⟩)))
          · exact .inr (.inr (.inr (.inr ⟨_, rfl, .inr (.inr (sB1 _ _ (sA1 _ _ g9)))⟩)))
        refine ⟨q8, rfl, ⟨_, SqL.of gB⟩, ?_⟩
        refine for_list (K := K) (a := q8) (xs := zs.map V.str ++ [.str "", .str "A", .non, .int 1, .bl true, .ref q4, .ref q5, .ref q6]) (fun i σ H' => ∃ v2 v3 v4 v5 v6 v7 v8 v9, σ = [some (.ref x), some (.ref a), v2, v3, v4, v5, v6, v7, v8, v9] ∧ Same HB H') ⟨_, _, _, _, _, _, _, _, rfl, fun _ _ e => e⟩ (fun i σ H' _ ⟨_, _, _, _, _, _, _, _, _, sA⟩ => SqL.of (sA _ _ gB)) ?_ ?_
        · rintro i z σ HC hv ⟨v2, v3, v4, v5, v6, v7, v8, v9, rfl, sC1⟩
          have kind : Odd HC z ∨ ∃ y, z = .str y ∧ Word y ∧ y ∉ roomsL ms bs es := by
            rcases List.mem_append.mp (List.mem_of_getElem? hv) with hj | hj
            · obtain ⟨y, hy, ey⟩ := List.mem_map.mp hj
              exact .inr ⟨y, ey.symm, hz y hy⟩
            · exact .inl ((odd z hj).same sC1)
          refine ⟨_, rfl, _, rfl, (by show 3 ≤ sizeLine; decide), fun p hp => ?_⟩
          obtain ⟨HD, eD, sD, gD1⟩ : ∃ HD, HD = upd HC p (.lst [.ref x, z, .non]) ∧ Same HC HD ∧ HD p = some (.lst [.ref x, z, .non]) := ⟨_, rfl, same_upd hp, upd_same⟩
          rw [← eD]
          clear eD
          have sHD := sHB.trans (sC1.trans sD)
          have key : ∀ R S : Prop, R → ((WdF K HD z false ∧ R) ∨ ∃ s, z = .str s ∧ s.length ≤ sizeLine ∧ wordB s = true ∧ ((s ∉ roomsL (srtM ms) (srtW bs) (srtW es) ∧ R) ∨ (s ∈ roomsL (srtM ms) (srtW bs) (srtW es) ∧ S))) := fun R S h => by
            rcases kind with k | ⟨y, ey, Wy, ny⟩
            · exact .inl ⟨(k.same sD).wd, h⟩
            · exact .inr ⟨y, ey, by have := Wy.1.2; rw [sizeLine_eq]; omega, Wy.form, .inl ⟨fun z => ny ((memS y).mp z), h⟩⟩
          refine ⟨_, p, _, _, _, rfl, gD1, .inr (.inl ⟨rfl, .inr ⟨x, _, _, _, rfl, hm.same sHD, fws, key _ _ ?_⟩⟩)⟩
          refine fun pr HE sE gE => ?_
          have sf : Self K HE z := by
            rcases kind with k | ⟨y, rfl, _⟩
            · exact (k.same (sD.trans sE)).self
            · exact self_str y
          refine ⟨_, rfl, pr, _, z, rfl, gE, sf, fun HF sF => ⟨true, rfl, iteF ?_⟩⟩
          exact ⟨_, _, _, _, _, _, _, _, rfl, sC1.trans (sD.trans (sE.trans sF))⟩
        · rintro σ HC ⟨v2, v3, v4, v5, v6, v7, v8, v9, rfl, sC1⟩
          have sHC := sHB.trans sC1
          refine ⟨_, rfl, a, ms, bs, es, rs, js, rfl, hw.same sHC, fw, fun p HD sD hp gD1 => ?_⟩
          refine ⟨2, rfl, p, _, rfl, SqL.of gD1, fun p0 hp0 => ?_⟩
          obtain ⟨HE, eE, sE, gE⟩ : ∃ HE, HE = upd HD p0 (.lst (((setW (roomsL ms bs es)).take 2).map V.str)) ∧ Same HD HE ∧ HE p0 = some (.lst (((setW (roomsL ms bs es)).take 2).map V.str)) := ⟨_, rfl, same_upd hp0, upd_same⟩
          rw [show cutV ((setW (roomsL ms bs es)).map V.str) none (some 2) = _ from cut_take _ 2, ← eE]
          clear eE
          have sHE := sHC.trans (sD.trans sE)
          refine ⟨p0, rfl, ⟨_, SqL.of gE⟩, ?_⟩
          refine for_list (K := K) (a := p0) (xs := ((setW (roomsL ms bs es)).take 2).map V.str) (fun i σ H' => ∃ v2 v3 v4 v5 v6 v7 v8 v9, σ = [some (.ref x), some (.ref a), v2, v3, v4, v5, v6, v7, v8, v9] ∧ Same HE H') ⟨_, _, _, _, _, _, _, _, rfl, fun _ _ e => e⟩ (fun i σ H' _ ⟨_, _, _, _, _, _, _, _, _, sA⟩ => SqL.of (sA _ _ gE)) ?_ ?_
          · rintro i z σ HF hv ⟨v2, v3, v4, v5, v6, v7, v8, v9, rfl, sF⟩
            obtain ⟨r, hr1, rfl⟩ := item_str hv
            have mr := setW_mem.mp (List.mem_of_mem_take hr1)
            have Wr := rmW r mr
            have lr8 : r.length ≤ sizeLine := by have := Wr.1.2; rw [sizeLine_eq]; omega
            refine ⟨(by show 1 ≤ sizeLine; decide), fun q4 hq4 => ?_⟩
            obtain ⟨H7, e7, s7, g7⟩ : ∃ H7, H7 = upd HF q4 (.lst [.str "a"]) ∧ Same HF H7 ∧ H7 q4 = some (.lst [.str "a"]) := ⟨_, rfl, same_upd hq4, upd_same⟩
            rw [← e7]
            clear e7
            refine ⟨(by show 1 ≤ sizeLine; decide), fun q5 hq5 => ?_⟩
            obtain ⟨H8, e8, s8, g8⟩ : ∃ H8, H8 = upd H7 q5 (.tup [.str "a"]) ∧ Same H7 H8 ∧ H8 q5 = some (.tup [.str "a"]) := ⟨_, rfl, same_upd hq5, upd_same⟩
            rw [← e8]
            clear e8
            refine fun q6 hq6 => ?_
            obtain ⟨H9, e9, s9, g9⟩ : ∃ H9, H9 = upd H8 q6 (.dK []) ∧ Same H8 H9 ∧ H9 q6 = some (.dK []) := ⟨_, rfl, same_upd hq6, upd_same⟩
            rw [← e9]
            clear e9
            refine ⟨(by show 10 ≤ sizeLine; decide), fun q7 hq7 => ?_⟩
            obtain ⟨HA, eA, sA1, gA⟩ : ∃ HA, HA = upd H9 q7 (.tup [.str "", .str "A", .str "abcdefghi", .str "a b", .non, .int 1, .bl true, .ref q4, .ref q5, .ref q6]) ∧ Same H9 HA ∧ HA q7 = some (.tup [.str "", .str "A", .str "abcdefghi", .str "a b", .non, .int 1, .bl true, .ref q4, .ref q5, .ref q6]) := ⟨_, rfl, same_upd hq7, upd_same⟩
            rw [← eA]
            clear eA
            have sFA := ((s7.trans s8).trans s9).trans sA1
            have odd : ∀ z ∈ ([.str "", .str "A", .str "abcdefghi", .str "a b", .non, .int 1, .bl true, .ref q4, .ref q5, .ref q6] : List V), Odd HA z := by
              intro z hz
              simp only [List.mem_cons, List.not_mem_nil, or_false] at hz
              rcases hz with rfl | rfl | rfl | rfl | rfl | rfl | rfl | rfl | rfl | rfl
              · exact .inl ⟨_, rfl, by decide +kernel, by decide +kernel⟩
              · exact .inl ⟨_, rfl, by decide +kernel, by decide +kernel⟩
              · exact .inl ⟨_, rfl, by decide +kernel, by decide +kernel⟩
              · exact .inl ⟨_, rfl, by decide +kernel, by decide +kernel⟩
              · exact .inr (.inl rfl)
              · exact .inr (.inr (.inl ⟨_, rfl⟩))
              · exact .inr (.inr (.inr (.inl ⟨_, rfl⟩)))
              · exact .inr (.inr (.inr (.inr ⟨_, rfl, .inl (sA1 _ _ (s9 _ _ (s8 _ _ g7)))⟩)))
              · exact .inr (.inr (.inr (.inr ⟨_, rfl, .inr (.inl (sA1 _ _ (s9 _ _ g8)))⟩)))
              · exact .inr (.inr (.inr (.inr ⟨_, rfl, .inr (.inr (sA1 _ _ g9))⟩)))
            refine ⟨q7, rfl, ⟨_, SqT.of gA⟩, ?_⟩
            refine for_tup (K := K) (a := q7) (xs := [.str "", .str "A", .str "abcdefghi", .str "a b", .non, .int 1, .bl true, .ref q4, .ref q5, .ref q6]) (fun i σ H' => ∃ v3 v4 v5 v6 v7 v8 v9, σ = [some (.ref x), some (.ref a), some (.str r), v3, v4, v5, v6, v7, v8, v9] ∧ Same HA H') ⟨_, _, _, _, _, _, _, rfl, fun _ _ e => e⟩ (fun i σ H' _ ⟨_, _, _, _, _, _, _, _, sG⟩ => SqT.of (sG _ _ gA)) ?_ ?_
            · rintro k z σ HG hv ⟨v3, v4, v5, v6, v7, v8, v9, rfl, sG⟩
              have kind : Odd HG z := (odd z (List.mem_of_getElem? hv)).same sG
              refine ⟨_, rfl, _, rfl, _, rfl, (by show 3 ≤ sizeLine; decide), fun p hp => ?_⟩
              obtain ⟨HI, eI, sI, gI⟩ : ∃ HI, HI = upd HG p (.lst [.ref x, .str r, z]) ∧ Same HG HI ∧ HI p = some (.lst [.ref x, .str r, z]) := ⟨_, rfl, same_upd hp, upd_same⟩
              rw [← eI]
              clear eI
              have sHI := sHE.trans (sF.trans (sFA.trans (sG.trans sI)))
              refine ⟨_, p, _, _, _, rfl, gI, .inr (.inl ⟨rfl, .inr ⟨x, _, _, _, rfl, hm.same sHI, fws, .inr ⟨r, rfl, lr8, Wr.form, .inr ⟨(memS r).mpr mr, (kind.same sI).wd, ?_⟩⟩⟩⟩)⟩
              refine fun pr HJ sJ gJ => ?_
              refine ⟨_, rfl, pr, _, z, rfl, gJ, (kind.same (sI.trans sJ)).self, fun HK sK => ⟨true, rfl, iteF ?_⟩⟩
              exact ⟨_, _, _, _, _, _, _, rfl, sG.trans (sI.trans (sJ.trans sK))⟩
            · rintro σ HG ⟨v3, v4, v5, v6, v7, v8, v9, rfl, sG⟩
              exact ⟨_, _, _, _, _, _, _, _, rfl, sF.trans (sFA.trans sG)⟩
          · rintro σ HF ⟨v2, v3, v4, v5, v6, v7, v8, v9, rfl, sF⟩
            exact q _ (sHE.trans sF)
end
end L2.K03
set_option Elab.async false
set_option linter.all false
set_option maxRecDepth 100000
set_option maxHeartbeats 4000000
namespace L2.K03
open PySem PySem.Spec PyProof.Rows L2.EV L2
/-! ### the other manuals of a world: what is needed of lists -/
theorem cut_tk {xs : List V} (a : Nat) : cutV xs none (some (a : Int)) = xs.take a := by
  unfold cutV
  rw [HT.sIx_none, HT.sIx_nat, List.drop_zero, Nat.sub_zero]
  by_cases h : a ≤ xs.length
  · rw [Nat.min_eq_left h]
  · rw [Nat.min_eq_right (by omega), List.take_of_length_le (Nat.le_refl _), List.take_of_length_le (by omega)]
theorem cut_dp {xs : List V} (a : Nat) (h : a ≤ xs.length) : cutV xs (some (a : Int)) none = xs.drop a := by
  unfold cutV
  rw [HT.sIx_none, HT.sIx_nat, Nat.min_eq_left h]
  exact List.take_of_length_le (by rw [List.length_drop]; exact Nat.le_refl _)
theorem Mans.take {H : Hp} {vs : List V} {ms : List Mn} (h : Mans H vs ms) (i : Nat) : Mans H (vs.take i) (ms.take i) := by
  refine ⟨by rw [List.length_take, List.length_take, h.1], fun j v m a b => ?_⟩
  rw [List.getElem?_take] at a b
  split at a
  · exact h.2 j v m a (by rw [if_pos (by assumption)] at b; exact b)
  · cases a
theorem Mans.drop {H : Hp} {vs : List V} {ms : List Mn} (h : Mans H vs ms) (i : Nat) : Mans H (vs.drop i) (ms.drop i) := by
  refine ⟨by rw [List.length_drop, List.length_drop, h.1], fun j v m a b => ?_⟩
  rw [List.getElem?_drop] at a b
  exact h.2 _ v m a b
theorem Mans.app {H : Hp} {vs us : List V} {ms ns : List Mn} (h : Mans H vs ms) (g : Mans H us ns) : Mans H (vs ++ us) (ms ++ ns) := by
  refine ⟨by rw [List.length_append, List.length_append, h.1, g.1], fun j v m a b => ?_⟩
  by_cases hj : j < vs.length
  · rw [List.getElem?_append_left hj] at a
    rw [List.getElem?_append_left (by rw [← h.1]; exact hj)] at b
    exact h.2 j v m a b
  · rw [List.getElem?_append_right (by omega)] at a
    rw [List.getElem?_append_right (by rw [← h.1]; omega)] at b
    rw [← h.1] at b
    exact g.2 _ v m a b
theorem Mans.one {H : Hp} {v : V} {m : Mn} (h : ManAt H v m) : Mans H [v] [m] := Mans.nil.snoc h
theorem srtM_ne {ms ns : List Mn} (h : ¬ ms.Perm ns) : srtM ms ≠ srtM ns := fun e => h ((srtM_perm ms).symm.trans (e ▸ srtM_perm ns))
theorem srtW_ne {ms ns : List Str} (h : ¬ ms.Perm ns) : srtW ms ≠ srtW ns := fun e => h ((srtW_perm ms).symm.trans (e ▸ srtW_perm ns))
/-- with and without a word -/
def togL (r : Str) (L : List Str) : List Str := L.filter (fun z => !(z == r)) ++ (if r ∈ L then [] else [r])
theorem tog_mem {r : Str} {L : List Str} : r ∈ togL r L ↔ r ∉ L := by
  unfold togL
  by_cases h : r ∈ L
  · rw [if_pos h]
    simp [h]
  · rw [if_neg h]
    simp [h]
theorem tog_ne {r : Str} {L : List Str} : srtW L ≠ srtW (togL r L) := srtW_ne fun p => by
  have a := p.mem_iff (a := r)
  rw [tog_mem] at a
  by_cases h : r ∈ L
  · exact a.mp h h
  · exact h (a.mpr h)
theorem tog_nodup {r : Str} {L : List Str} (h : L.Nodup) : (togL r L).Nodup := by
  unfold togL
  rw [List.nodup_append]
  refine ⟨h.filter _, by split <;> simp, fun a ha b hb e => ?_⟩
  split at hb
  · cases hb
  · rw [List.mem_singleton.mp hb] at e
    rw [List.mem_filter] at ha
    have := ha.2
    rw [e] at this
    simp at this
theorem tog_word {r : Str} {L : List Str} (hr : Word r) (h : ∀ x ∈ L, Word x) : ∀ x ∈ togL r L, Word x := fun x hx => by
  unfold togL at hx
  rcases List.mem_append.mp hx with hx | hx
  · exact h x (List.mem_filter.mp hx).1
  · split at hx
    · cases hx
    · rw [List.mem_singleton.mp hx]
      exact hr
theorem tog_len {r : Str} {L : List Str} : (togL r L).length ≤ L.length + 1 := by
  unfold togL
  rw [List.length_append]
  have := List.length_filter_le (fun z => !(z == r)) L
  split
  · show _ + 0 ≤ _
    omega
  · show _ + 1 ≤ _
    omega
theorem rep_mem {b : Bool} {y z : V} (h : y ∈ (List.replicate ((if b = true then 1 else 0 : Int)).toNat [z]).flatten) : b = true ∧ y = z := by
  cases b
  · simp at h
  · simp at h
    exact ⟨rfl, h⟩
theorem rep_len (b : Bool) (z : V) : (List.replicate ((if b = true then 1 else 0 : Int)).toNat [z]).flatten.length ≤ 1 := by
  cases b
  · simp
  · simp
theorem rep_tog (r : Str) (L : List Str) : (L.filter (fun z => !(z == r))).map V.str ++ (List.replicate ((if (!inV (.str r) (L.map V.str)) = true then 1 else 0 : Int)).toNat [V.str r]).flatten = (togL r L).map V.str := by
  rw [inV_mem]
  unfold togL
  by_cases h : r ∈ L
  · rw [decide_eq_true h, if_pos h]
    simp
  · rw [decide_eq_false h, if_neg h]
    simp
theorem take_mem {α : Type} {l : List α} {i : Nat} {x : α} (h : x ∈ l.take i) : x ∈ l := List.mem_of_mem_take h
theorem drop_mem {α : Type} {l : List α} {i : Nat} {x : α} (h : x ∈ l.drop i) : x ∈ l := List.mem_of_mem_drop h
theorem less_nodup {α : Type} {l : List α} (h : l.Nodup) (i : Nat) : (l.take i ++ l.drop (i + 1)).Nodup := by
  rw [← List.eraseIdx_eq_take_drop_succ]
  exact (List.eraseIdx_sublist l i).nodup h
theorem less_mem {α : Type} {l : List α} {i : Nat} {x : α} (h : x ∈ l.take i ++ l.drop (i + 1)) : x ∈ l := by
  rcases List.mem_append.mp h with h | h
  · exact take_mem h
  · exact drop_mem h
theorem less_len {α : Type} {l : List α} {i : Nat} (h : i < l.length) : (l.take i ++ l.drop (i + 1)).length + 1 = l.length := by
  rw [List.length_append, List.length_take, List.length_drop]
  omega
theorem swap_nodup {α : Type} {l : List α} (h : l.Nodup) (i : Nat) {y : α} (ny : y ∉ l) : (l.take i ++ [y] ++ l.drop (i + 1)).Nodup := by
  have p : (l.take i ++ [y] ++ l.drop (i + 1)).Perm (y :: (l.take i ++ l.drop (i + 1))) := by
    rw [List.append_assoc]
    exact List.perm_middle
  rw [p.nodup_iff, List.nodup_cons]
  exact ⟨fun m => ny (less_mem m), less_nodup h i⟩
theorem swap_mem {α : Type} {l : List α} {i : Nat} {x y : α} (h : x ∈ l.take i ++ [y] ++ l.drop (i + 1)) : x = y ∨ x ∈ l := by
  rcases List.mem_append.mp h with h | h
  · rcases List.mem_append.mp h with h | h
    · exact .inr (take_mem h)
    · exact .inl (List.mem_singleton.mp h)
  · exact .inr (drop_mem h)
theorem swap_len {α : Type} {l : List α} {i : Nat} {y : α} (h : i < l.length) : (l.take i ++ [y] ++ l.drop (i + 1)).length = l.length := by
  rw [List.length_append, List.length_append, List.length_take, List.length_drop]
  show min i l.length + 1 + _ = _
  omega
/-! ### what stands beside the purse -/
theorem not_purse {H : Hp} {p a : Addr} {xs : List V} {n : Nat} (hp : PurseAt H p n) (ha : H a = some (.lst xs)) (h : ∀ i, V.int i ∉ xs) : a ≠ p := by
  rintro rfl
  obtain ⟨c, z, t, i, e, _⟩ := hp
  rw [e] at ha
  injection ha with ha
  injection ha with ha
  exact h c (by rw [← ha]; exact List.mem_cons_self)
theorem no_int_strs (ws : List Str) (i : Int) : V.int i ∉ ws.map V.str := fun h => by
  obtain ⟨y, _, e⟩ := List.mem_map.mp h
  cases e
theorem Mans.no_int {H : Hp} {vs : List V} {ms : List Mn} (h : Mans H vs ms) (i : Int) : V.int i ∉ vs := fun hm => by
  obtain ⟨j, lj, ej⟩ := List.mem_iff_getElem.mp hm
  obtain ⟨m, em⟩ : ∃ m, ms[j]? = some m := ⟨_, List.getElem?_eq_getElem (by rw [← h.1]; exact lj)⟩
  obtain ⟨a, t, e, _⟩ := h.2 j (.int i) m (by rw [List.getElem?_eq_getElem lj, ej]) em
  cases e
theorem OthAt.old {p : Addr} {H H' : Hp} {v : V} {ms : List Mn} {bs es : List Str} {n : Nat} (h : OthAt H v ms bs es) (hp : PurseAt H p n) (o : Old p H H') : OthAt H' v ms bs es := by
  obtain ⟨a, lm, lb, le, ws, ns, cs, ds, e, h1, h2, h3, h4, h5, r⟩ := h
  refine ⟨a, lm, lb, le, ws, ns, cs, ds, e, o _ _ (not_purse hp h1 fun i z => ?_) h1, o _ _ (not_purse hp h2 h3.no_int) h2, h3.old hp o, o _ _ (not_purse hp h4 (no_int_strs _)) h4, o _ _ (not_purse hp h5 (no_int_strs _)) h5, r⟩
  simp at z
theorem WdAt.old {p : Addr} {H H' : Hp} {a : Addr} {ms : List Mn} {bs es rs js : List Str} {n : Nat} (h : WdAt H a ms bs es rs js) (hp : PurseAt H p n) (o : Old p H H') : WdAt H' a ms bs es rs js := by
  obtain ⟨lm, lb, le, lr, lj, ws, h1, h2, h3, h4, h5, h6, h7⟩ := h
  refine ⟨lm, lb, le, lr, lj, ws, o _ _ (not_purse hp h1 fun i z => ?_) h1, o _ _ (not_purse hp h2 h3.no_int) h2, h3.old hp o, o _ _ (not_purse hp h4 (no_int_strs _)) h4, o _ _ (not_purse hp h5 (no_int_strs _)) h5, o _ _ (not_purse hp h6 (no_int_strs _)) h6, o _ _ (not_purse hp h7 (no_int_strs _)) h7⟩
  simp at z
theorem oths_no_int {H : Hp} {zs : List V} {ms : List Mn} {bs es : List Str} (h : ∀ y ∈ zs, OthAt H y ms bs es) (i : Int) : V.int i ∉ zs := fun hm => by
  obtain ⟨a, _, _, _, _, _, _, _, e, _⟩ := h _ hm
  cases e
end L2.K03
set_option Elab.async false
set_option linter.all false
set_option maxRecDepth 100000
set_option maxHeartbeats 4000000
namespace L2.EV
open PySem PySem.Spec PyProof.Rows
/-! ### displays: constants, names, sums of whole numbers; tuples, lists, dicts of such -/
inductive T where
  | v (x : V)
  | sl (i : Nat)
  | op (f : Int → Int → Int) (a b : T)
  | tup (ts : List T)
  | lst (ts : List T)
  | dct (ks : List Key) (ts : List T)
mutual
/-- the names' values put in -/
inductive Val (σ : St) : T → T → Prop
  | v (x : V) : Val σ (.v x) (.v x)
  | sl {i : Nat} {x : V} : σ[i]? = some (some x) → Val σ (.sl i) (.v x)
  | op {f : Int → Int → Int} {a b : T} {i j : Int} : Val σ a (.v (.int i)) → Val σ b (.v (.int j)) → Val σ (.op f a b) (.v (.int (f i j)))
  | tup {ts us : List T} : Vls σ ts us → Val σ (.tup ts) (.tup us)
  | lst {ts us : List T} : Vls σ ts us → Val σ (.lst ts) (.lst us)
  | dct {ks : List Key} {ts us : List T} : Vls σ ts us → Val σ (.dct ks ts) (.dct ks us)
inductive Vls (σ : St) : List T → List T → Prop
  | nil : Vls σ [] []
  | cons {t u : T} {ts us : List T} : Val σ t u → Vls σ ts us → Vls σ (t :: ts) (u :: us)
end
mutual
/-- the value x lies in the heap as t -/
inductive Laid (H : Hp) : V → T → Prop
  | v (x : V) : Laid H x (.v x)
  | tup {a : Addr} {xs : List V} {ts : List T} : H a = some (.tup xs) → Lds H xs ts → Laid H (.ref a) (.tup ts)
  | lst {a : Addr} {xs : List V} {ts : List T} : H a = some (.lst xs) → Lds H xs ts → Laid H (.ref a) (.lst ts)
  | dct {a : Addr} {kvs : List (Key × V)} {ts : List T} : H a = some (.dK kvs) → Lds H (kvs.map (·.2)) ts → Laid H (.ref a) (.dct (kvs.map (·.1)) ts)
inductive Lds (H : Hp) : List V → List T → Prop
  | nil : Lds H [] []
  | cons {x : V} {t : T} {xs : List V} {ts : List T} : Laid H x t → Lds H xs ts → Lds H (x :: xs) (t :: ts)
end
mutual
theorem Laid.same {H H' : Hp} (s : Same H H') : ∀ {x : V} {t : T}, Laid H x t → Laid H' x t
  | _, _, .v x => .v x
  | _, _, .tup h t => .tup (s _ _ h) (Lds.same s t)
  | _, _, .lst h t => .lst (s _ _ h) (Lds.same s t)
  | _, _, .dct h t => .dct (s _ _ h) (Lds.same s t)
theorem Lds.same {H H' : Hp} (s : Same H H') : ∀ {xs : List V} {ts : List T}, Lds H xs ts → Lds H' xs ts
  | _, _, .nil => .nil
  | _, _, .cons h t => .cons (Laid.same s h) (Lds.same s t)
end
theorem Lds.length {H : Hp} : ∀ {xs : List V} {ts : List T}, Lds H xs ts → ts.length = xs.length
  | _, _, .nil => rfl
  | _, _, .cons _ t => congrArg Nat.succ t.length
theorem Lds.append {H : Hp} : ∀ {xs ys : List V} {ts us : List T}, Lds H xs ts → Lds H ys us → Lds H (xs ++ ys) (ts ++ us)
  | _, _, _, _, .nil, h => h
  | _, _, _, _, .cons h t, g => .cons h (t.append g)
theorem Lds.at {H : Hp} : ∀ {xs : List V} {ts : List T} {i : Nat} {x : V}, Lds H xs ts → xs[i]? = some x → ∃ t, ts[i]? = some t ∧ Laid H x t
  | _, _, 0, _, .cons h _, e => by
    cases e
    exact ⟨_, rfl, h⟩
  | _, _, i + 1, _, .cons _ t, e => Lds.at (i := i) t e
theorem Same.rfl' {H : Hp} : Same H H := fun _ _ e => e
theorem same_put {H : Hp} {p : Addr} {o : HO} (h : H p = none) : Same H (upd H p o) := fun b u e => by
  rw [upd_ne (ne_of_none e h)]
  exact e
/-- what is new in H' -/
def nw (H H' : Hp) : Hp := fun b => if (H b).isSome = true then none else H' b
theorem nw_some {H H' : Hp} {b : Addr} {o : HO} (h : nw H H' b = some o) : H b = none ∧ H' b = some o := by
  unfold nw at h
  cases e : H b with
  | none =>
    rw [e] at h
    exact ⟨rfl, h⟩
  | some u =>
    rw [e] at h
    cases h
theorem nw_of {H H' : Hp} {b : Addr} {o : HO} (h : H b = none) (h2 : H' b = some o) : nw H H' b = some o := by
  unfold nw
  rw [h]
  exact h2
theorem nw_old {H H' : Hp} : Same (nw H H') H' := fun _ _ e => (nw_some e).2
theorem nw_right {H H1 H2 : Hp} (s : Same H1 H2) : Same (nw H H1) (nw H H2) := fun b o e => nw_of (nw_some e).1 (s b o (nw_some e).2)
theorem nw_left {H H1 H2 : Hp} (s : Same H H1) : Same (nw H1 H2) (nw H H2) := fun b o e => nw_of (s.free (nw_some e).1) (nw_some e).2
/-- the heap without D -/
def hid (H : Hp) (D : Addr) : Hp := fun b => if b = D then none else H b
theorem hid_some {H : Hp} {D b : Addr} {o : HO} (h : hid H D b = some o) : b ≠ D ∧ H b = some o := by
  unfold hid at h
  split at h
  · cases h
  · next n => exact ⟨n, h⟩
theorem hid_of {H : Hp} {D b : Addr} {o : HO} (n : b ≠ D) (h : H b = some o) : hid H D b = some o := (if_neg n).trans h
theorem hid_old {H : Hp} {D : Addr} : Same (hid H D) H := fun _ _ e => (hid_some e).2
theorem hid_mono {H H' : Hp} {D : Addr} (s : Same H H') : Same (hid H D) (hid H' D) := fun b o e => hid_of (hid_some e).1 (s b o (hid_some e).2)
theorem hid_upd {H : Hp} {D : Addr} {o : HO} : hid (upd H D o) D = hid H D := by
  funext b
  unfold hid
  by_cases e : b = D
  · rw [if_pos e, if_pos e]
  · rw [if_neg e, if_neg e, upd_ne e]
theorem nw_hid {H H' : Hp} {D : Addr} {u : HO} (h : H D = some u) : Same (nw H H') (hid H' D) := fun b o e => hid_of (fun z => by
  have := (nw_some e).1
  rw [z, h] at this
  cases this) (nw_some e).2
/-- a display's reading: new objects, as told; all else stands -/
def tL (t : T) : TE := fun σ H Q => ∃ u, Val σ t u ∧ ∀ x H', Same H H' → Laid (nw H H') x u → Q x H'
def tLs (ts : List T) : TA := fun σ H Q => ∃ us, Vls σ ts us ∧ ∀ xs H', Same H H' → Lds (nw H H') xs us → Q xs H'
section
variable {X : Cx} {pos : Pos}
theorem pl_int {i : Int} {k : Nat} : PE X (.Constant (.int i) k pos) (tL (.v (.int i))) := PE.imp pe_int fun σ H Q ⟨_, h, q⟩ => by
  cases h
  exact q _ _ Same.rfl' (.v _)
theorem pl_str {x : Str} {k : Nat} : PE X (.Constant (.str x) k pos) (tL (.v (.str x))) := PE.imp pe_str fun σ H Q ⟨_, h, q⟩ => by
  cases h
  exact q _ _ Same.rfl' (.v _)
theorem pl_bl {b : Bool} {k : Nat} : PE X (.Constant (.bool b) k pos) (tL (.v (.bl b))) := PE.imp pe_bl fun σ H Q ⟨_, h, q⟩ => by
  cases h
  exact q _ _ Same.rfl' (.v _)
theorem pl_non {k : Nat} : PE X (.Constant .none k pos) (tL (.v .non)) := PE.imp pe_non fun σ H Q ⟨_, h, q⟩ => by
  cases h
  exact q _ _ Same.rfl' (.v _)
theorem pl_v (i : Nat) {x : Str} (hN : X.N[i]? = some x := by rfl) (hv : Vis X.env.scope x := by first | exact Or.inl rfl | exact Or.inr (Or.inl rfl) | exact Or.inr (Or.inr rfl)) (hd : (x == ("__debug__" : Str)) = false := by decide)
    (hcd : (x == ("__classdict__" : Str)) = false := by decide) : PE X (.Name x pos) (tL (.sl i)) := PE.imp (pv i hN hv hd hcd) fun σ H Q ⟨_, h, q⟩ => by
  cases h with
  | sl e => exact ⟨_, e, q _ _ Same.rfl' (.v _)⟩
theorem pl_add {a b : Expr} {ta tb : T} (ha : PE X a (tL ta)) (hb : PE X b (tL tb)) : PE X (.BinOp a .Add b pos) (tL (.op (· + ·) ta tb)) := PE.imp (pe_op op_add ha hb) fun σ H Q ⟨_, h, q⟩ => by
  cases h with
  | op h1 h2 =>
    refine ⟨_, h1, fun x H1 s1 l1 => ⟨_, h2, fun y H2 s2 l2 => ?_⟩⟩
    cases l1
    cases l2
    exact ⟨_, _, rfl, rfl, q _ _ (s1.trans s2) (.v _)⟩
theorem pl_sub {a b : Expr} {ta tb : T} (ha : PE X a (tL ta)) (hb : PE X b (tL tb)) : PE X (.BinOp a .Sub b pos) (tL (.op (· - ·) ta tb)) := PE.imp (pe_op op_sub ha hb) fun σ H Q ⟨_, h, q⟩ => by
  cases h with
  | op h1 h2 =>
    refine ⟨_, h1, fun x H1 s1 l1 => ⟨_, h2, fun y H2 s2 l2 => ?_⟩⟩
    cases l1
    cases l2
    exact ⟨_, _, rfl, rfl, q _ _ (s1.trans s2) (.v _)⟩
theorem pl_neg {i : Int} {k : Nat} {p : Pos} : PE X (.UnaryOp .USub (.Constant (.int i) k p) pos) (tL (.v (.int (-i)))) := PE.imp (pe_un un_neg pe_int) fun σ H Q ⟨_, h, q⟩ => by
  cases h
  exact ⟨_, rfl, q _ _ Same.rfl' (.v _)⟩
theorem pl_pow {i j : Int} {k l : Nat} {p r : Pos} (h0 : 0 ≤ j := by decide) (h1 : (Builtin.Int.intBits i : Int) * j ≤ 2 ^ 27 := by decide +kernel) : PE X (.BinOp (.Constant (.int i) k p) .Pow (.Constant (.int j) l r) pos) (tL (.v (.int (i ^ j.toNat)))) :=
  PE.imp (pe_op (r := rI (fun i j => 0 ≤ j ∧ (Builtin.Int.intBits i : Int) * j ≤ 2 ^ 27) fun i j => .int (i ^ j.toNat)) (opI fun _ _ _ _ _ _ _ hc q => pow_int hc.1 hc.2 q) pe_int pe_int) fun σ H Q ⟨_, h, q⟩ => by
    cases h
    exact ⟨_, _, rfl, rfl, ⟨h0, h1⟩, q _ _ Same.rfl' (.v _)⟩
theorem pla_nil : PA X [] (tLs []) := PA.imp pa_nil fun σ H Q ⟨_, h, q⟩ => by
  cases h
  exact q [] H Same.rfl' .nil
theorem pla_cons {e : Expr} {es : List Expr} {t : T} {ts : List T} (he : PE X e (tL t)) (hr : PA X es (tLs ts)) (hs : starEach (e :: es) X.env = (false, eval e X.env) :: starEach es X.env := by rfl) : PA X (e :: es) (tLs (t :: ts)) :=
  PA.imp (pa_cons he hr hs) fun σ H Q ⟨_, h, q⟩ => by
    cases h with
    | cons h1 h2 => exact ⟨_, h1, fun x H1 s1 l1 => ⟨_, h2, fun xs H2 s2 l2 => q _ _ (s1.trans s2) (.cons (l1.same (nw_right s2)) (l2.same (nw_left s1)))⟩⟩
theorem Vls.length {σ : St} : ∀ {ts us : List T}, Vls σ ts us → us.length = ts.length
  | _, _, .nil => rfl
  | _, _, .cons _ t => congrArg Nat.succ (Vls.length t)
theorem line_big {n : Nat} (h : n ≤ 1000) : n ≤ sizeLine := by
  rw [sizeLine_eq]
  omega
theorem pl_tup {es : List Expr} {ts : List T} {c : Nat} (h : PA X es (tLs ts)) (hz : ts.length ≤ 1000 := by decide) : PE X (.Tuple es c pos) (tL (.tup ts)) := PE.imp (pe_tup h) fun σ H Q ⟨_, g, q⟩ => by
  cases g with
  | tup g =>
    refine ⟨_, g, fun xs H1 s1 l => ⟨line_big (by rw [← l.length, g.length]; exact hz), fun p hp => ?_⟩⟩
    have s2 := same_put (o := .tup xs) hp
    exact q _ _ (s1.trans s2) (.tup (nw_of (s1.free hp) upd_same) (l.same (nw_right s2)))
theorem pl_lst {es : List Expr} {ts : List T} (h : PA X es (tLs ts)) (hz : ts.length ≤ 1000 := by decide) : PE X (.List es pos) (tL (.lst ts)) := PE.imp (pe_lst h) fun σ H Q ⟨_, g, q⟩ => by
  cases g with
  | lst g =>
    refine ⟨_, g, fun xs H1 s1 l => ⟨line_big (by rw [← l.length, g.length]; exact hz), fun p hp => ?_⟩⟩
    have s2 := same_put (o := .lst xs) hp
    exact q _ _ (s1.trans s2) (.lst (nw_of (s1.free hp) upd_same) (l.same (nw_right s2)))
theorem pl_d0 : PE X (.Dict [] [] pos) (tL (.dct [] [])) := PE.imp pe_dnewK fun σ H Q ⟨_, g, q⟩ => by
  cases g with
  | dct g =>
    cases g
    exact fun p hp => q _ _ (same_put hp) (Laid.dct (kvs := []) (nw_of hp upd_same) .nil)
theorem pl_d1 {k : Str} {l : Nat} {p : Pos} {e : Expr} {x : V} (he : PE X e (tL (.v x))) : PE X (.Dict [some (.Constant (.str k) l p)] [e] pos) (tL (.dct [.inr k] [.v x])) :=
  PE.imp (pe_disp (pps_cons pe_str he pps_nil) rfl rfl (fun z => by cases z) (by show 1 ≤ 15; decide)) fun σ H Q ⟨_, g, q⟩ => by
    cases g with
    | dct g =>
      cases g with
      | cons g1 g2 =>
        cases g1
        cases g2
        refine fun p hp => ⟨_, .v x, fun y H2 s2 l => ?_⟩
        cases l
        refine ⟨s2 _ _ upd_same, [(.inr k, x)], rfl, (by show 1 ≤ 15; decide), q _ _ (fun b o e => ?_) (Laid.dct (kvs := [(.inr k, x)]) (nw_of hp upd_same) (.cons (.v x) .nil))⟩
        have ne := ne_of_none e hp
        rw [upd_ne ne]
        exact s2 _ _ ((upd_ne ne).trans e)
end
end L2.EV
set_option Elab.async false
set_option linter.all false
set_option maxRecDepth 100000
set_option maxHeartbeats 4000000
namespace L2.K03
open PySem PySem.Spec PyProof.Rows L2.EV L2
/-! ### the other manuals of a world -/
abbrev sOt : Stmt := top 52
abbrev pOt : List Str := ["_law_purse_here", "_law_world_here"]
abbrev nOt : List Str := ["_law_purse_here", "_law_world_here", "_law_manners", "_law_begins", "_law_ends", "_law_found", "_law_at", "_law_other", "_law_room", "_law_one"]
theorem scOt : FnScope nOt pOt (defScope sOt) := ⟨rfl, rfl, rfl, by decide +kernel, rfl, by decide +kernel, by decide +kernel⟩
def spOt : Sp := fun vs H Q _ => ∃ (p a : Addr) (ms : List Mn) (bs es rs js : List Str) (n : Nat), vs = [.ref p, .ref a] ∧ WdAt H a ms bs es rs js ∧ Wd ms bs es rs js ∧ PurseAt H p n ∧ n < 2 ^ 38 ∧
  ∀ (q : Addr) (ys : List V) (H' : Hp), H' q = some (.lst ys) → (∀ y ∈ ys, OthAt H' y ms bs es) → PurseAt H' p (n + 200) → Old p H H' → H q = none → Q (.ref q) H'
abbrev tCutL (K : PySem.W.Frag) : TE := tSl (rSlL K) (tVar 2) tNoPart (tPart (tVar 6))
abbrev tCutR (K : PySem.W.Frag) : TE := tSl (rSlL K) (tVar 2) (tPart (tOp (rI0 fun i j => .int (i + j)) (tVar 6) (tC (.int 1)))) tNoPart
abbrev tLess (K : PySem.W.Frag) : TE := tLst (tCons (tOp rCat (tCutL K) (tCutR K)) (tCons (tVar 3) (tCons (tVar 4) tNil)))
theorem ne_of_new {H : Hp} {a b : Addr} {o : HO} (h : H a = none) (h' : H b = some o) : a ≠ b := (ne_of_none h' h).symm
theorem hid_base {H H' : Hp} {D : Addr} (hD : H D = none) (s : Same H H') : Same H (hid H' D) := fun b o e => hid_of (ne_of_none e hD) (s _ _ e)
theorem hid_new {H : Hp} {q : Addr} {o : HO} (hq : H q = none) : Same H (hid (upd H q o) q) := hid_base hq (same_upd hq)
theorem old_new {p q : Addr} {H Hl : Hp} {u : HO} (o : Old p H Hl) (hq : Hl q = none) : Old p H (hid (upd Hl q u) q) := o.trans (.of_same (hid_new hq))
theorem Old.hid {p D : Addr} {H H' : Hp} (o : Old p H H') : Old p (hid H D) (hid H' D) := fun b u n e => hid_of (hid_some e).1 (o b u n (hid_some e).2)
theorem PurseAt.hid {H : Hp} {p D : Addr} {n : Nat} (h : PurseAt H p n) (ne : p ≠ D) : PurseAt (hid H D) p n := by
  obtain ⟨c, z, t, i, e, r⟩ := h
  exact ⟨c, z, t, i, hid_of ne e, r⟩
/-- three lists made of a world's -/
theorem oth_of {H : Hp} {x lm lb le : Addr} {ws : List V} {ms ns : List Mn} {bs es cs ds : List Str} (hx : H x = some (.lst [.ref lm, .ref lb, .ref le])) (hm : H lm = some (.lst ws)) (hM : Mans H ws ns) (hb : H lb = some (.lst (cs.map V.str))) (he : H le = some (.lst (ds.map V.str)))
    (o : MOk ns cs ds) (l1 : ns.length < 64) (l2 : cs.length ≤ 900) (l3 : ds.length ≤ 900) (d1 : ns.Nodup) (d2 : cs.Nodup) (d3 : ds.Nodup) (un : ¬(srtM ms = srtM ns ∧ srtW bs = srtW cs ∧ srtW es = srtW ds)) : OthAt H (.ref x) ms bs es :=
  ⟨x, lm, lb, le, ws, ns, cs, ds, rfl, hx, hm, hM, hb, he, o, l1, l2, l3, d1, d2, d3, un⟩
section
variable {P : Program} {w : World} {K : PySem.W.Frag} {mg : Str → Option Value} {base : Heap} {f : Addr} {fd : FuncData}
theorem ok_ot (F : FnP K "_law_others" sOt f fd) (GE : Got P w K mg base 3 "_law_effect" ["_law_purse_here"] spEff) (GS : Got P w K mg base 3 "_law_shuffled" ["_law_purse_here", "_law_some_here"] spShuf)
    (mL : mg "len" = none) (mR : mg "range" = none) (mI : mg "int" = none) (mSo : mg "sorted" = none) : FnOk P w K mg base CX0 4 f fd pOt spOt := by
  refine F.ok scOt (fun vs H Q E h => ?_) (fun cdv A outer s H vs Q E hr h => ?_)
  · obtain ⟨p, a, ms, bs, es, rs, js, n, rfl, _⟩ := h
    rfl
  · obtain ⟨p, a, ms, bs, es, rs, js, n, rfl, hw, W, hp, hn, q⟩ := h
    have hu := hr.units
    have hu65 : (A.deeper (envOfC "_law_others" (defScope sOt) s.heap.objs.size f cdv)).units + 65 < cLine := by
      have := hr.un
      omega
    refine ⟨_, PSs.nox (pss_cons (ps_asg (pe_tup (pa_cons (pe_ix ix_list (pv 1) pe_int (fun _ _ => rfl)) (pa_cons (pe_ix ix_list (pv 1) pe_int (fun _ _ => rfl)) (pa_cons (pe_ix ix_list (pv 1) pe_int (fun _ _ => rfl)) pa_nil))))
          (pg_tup rfl (pgs_cons (pg_name (i := 2) scOt.nd rfl (by first | exact Or.inl rfl | exact Or.inr rfl)) (pgs_cons (pg_name (i := 3) scOt.nd rfl (by first | exact Or.inl rfl | exact Or.inr rfl)) (pgs_cons (pg_name (i := 4) scOt.nd rfl (by first | exact Or.inl rfl | exact Or.inr rfl)) pgs_nil)))))
      (pss_cons (ps_setLc (i := 5) (own := [("_law_at", 6)]) (g := gName 6) (tt := tYes) (te := tLess K) (by rfl) scOt.nd rfl rfl (by rfl) (pi_range1 (by rfl) mR (pa_cons (pe_callB call_len_seq (by rfl) mL PySem.boot_len (pa_cons (pv 2) pa_nil)) pa_nil))
          (blkOk_by (own := [("_law_at", 6)]) (N := nOt) (sc := defScope sOt) (by decide +kernel)) (fun _ _ _ _ _ => pg_name (i := 6) scOt.nd rfl (Or.inl rfl)) (fun _ _ _ _ _ => pts_nil)
          (fun _ _ _ _ _ => pe_lst (pa_cons (pe_op op_cat (pe_slice sl_list (pv 2) po_none (po_some (pv 6))) (pe_slice sl_list (pv 2) (po_some (pe_op op_add (pv 6) pe_int)) po_none)) (pa_cons (pv 3) (pa_cons (pv 4) pa_nil)))))
      (pss_cons (ps_for PassesOwn.never rfl (pi_range1 (by rfl) mR (pa_cons (pe_callB call_len_seq (by rfl) mL PySem.boot_len (pa_cons (pv 2) pa_nil)) pa_nil)) (pg_name (i := 6) scOt.nd rfl (by first | exact Or.inl rfl | exact Or.inr rfl))
          (pss_cons (ps_set (i := 7) scOt.nd rfl (Or.inl rfl) (pe_op op_catA (pe_slice sl_tup (pe_ix ix_list (pv 2) (pv 6) (fun _ _ => rfl)) po_none (po_some pe_int)) (pe_tup (pa_cons (pe_got GE hr (pa_cons (pv 0) pa_nil)) pa_nil))))
          (pss_one (ps_set (i := 5) scOt.nd rfl (Or.inl rfl) (pe_op op_cat (pv 5) (pe_op op_rep (pe_lst (pa_cons (pe_lst (pa_cons (pe_op op_cat (pe_op op_cat (pe_slice sl_list (pv 2) po_none (po_some (pv 6))) (pe_lst (pa_cons (pv 7) pa_nil))) (pe_slice sl_list (pv 2) (po_some (pe_op op_add (pv 6) pe_int)) po_none)) (pa_cons (pv 3) (pa_cons (pv 4) pa_nil)))) pa_nil))
              (pe_callTy call_int1 (by rfl) mI (by decide +kernel) (pa_cons (pe_cmpR (op_notInD hu65) (pv 7) (pv 2) (by rfl)) pa_nil))))))))
      (pss_cons (ps_for PassesOwn.never rfl (pi_list (pe_ix ix_list (pv 1) pe_int (fun _ _ => rfl))) (pg_name (i := 8) scOt.nd rfl (by first | exact Or.inl rfl | exact Or.inr rfl))
          (pss_cons (ps_expr (pe_bm PySem.F.plainAttrs_list PySem.F.slot_list_append PySem.F.type_list_append mt_append (pv 5) (pa_cons (pe_lst (pa_cons (pv 2) (pa_cons (pe_op op_cat
              (pe_lc (own := [("_law_one", 9)]) (g := gName 9) (tt := tTest (tOp rNe (tVar 9) (tVar 8))) (te := tVar 9) (by rfl) scOt.nd (pi_list (pv 3)) (blkOk_by (own := [("_law_one", 9)]) (N := nOt) (sc := defScope sOt) (by decide +kernel)) (fun _ _ _ _ _ => pg_name (i := 9) scOt.nd rfl (Or.inl rfl)) (fun _ _ _ _ _ => pts_one (pt_cmpR op_ne (pv 9) (pv 8) (nomark _))) (fun _ _ _ _ _ => pv 9))
              (pe_op op_rep (pe_lst (pa_cons (pv 8) pa_nil)) (pe_callTy call_int1 (by rfl) mI (by decide +kernel) (pa_cons (pe_cmpR op_notIn_seq (pv 8) (pv 3) (by rfl)) pa_nil)))) (pa_cons (pv 4) pa_nil)))) pa_nil)))
          (pss_one (ps_expr (pe_bm PySem.F.plainAttrs_list PySem.F.slot_list_append PySem.F.type_list_append mt_append (pv 5) (pa_cons (pe_lst (pa_cons (pv 2) (pa_cons (pv 3) (pa_cons (pe_op op_cat
              (pe_lc (own := [("_law_one", 9)]) (g := gName 9) (tt := tTest (tOp rNe (tVar 9) (tVar 8))) (te := tVar 9) (by rfl) scOt.nd (pi_list (pv 4)) (blkOk_by (own := [("_law_one", 9)]) (N := nOt) (sc := defScope sOt) (by decide +kernel)) (fun _ _ _ _ _ => pg_name (i := 9) scOt.nd rfl (Or.inl rfl)) (fun _ _ _ _ _ => pts_one (pt_cmpR op_ne (pv 9) (pv 8) (nomark _))) (fun _ _ _ _ _ => pv 9))
              (pe_op op_rep (pe_lst (pa_cons (pv 8) pa_nil)) (pe_callTy call_int1 (by rfl) mI (by decide +kernel) (pa_cons (pe_cmpR op_notIn_seq (pv 8) (pv 4) (by rfl)) pa_nil)))) pa_nil)))) pa_nil))))))
      (pss_one (ps_ret (pe_op op_cat (pe_slice sl_list (pe_got GS hr (pa_cons (pv 0) (pa_cons (pv 5) pa_nil))) po_none (po_some pe_int)) (pe_op op_rep (pe_lst (pa_cons (pe_lst (pa_cons (pv 2) (pa_cons (pv 4) (pa_cons (pv 3) pa_nil)))) pa_nil))
          (pe_callTy call_int1 (by rfl) mI (by decide +kernel) (pa_cons (pe_cmpR (op_neD hu) (pe_callB (cr_sortedDp hu) (by rfl) mSo (by decide +kernel) (pa_cons (pv 3) pa_nil)) (pe_callB (cr_sortedDp hu) (by rfl) mSo (by decide +kernel) (pa_cons (pv 4) pa_nil)) (nomark _)) pa_nil)))))))))), ?_⟩
    obtain ⟨lm, lb, le, lr, lj, ws, h1, h2, h3, h4, h5, h6, h7⟩ := id hw
    have na : a ≠ p := not_purse hp h1 fun i z => by simp at z
    have nm : lm ≠ p := not_purse hp h2 h3.no_int
    have nb : lb ≠ p := not_purse hp h4 (no_int_strs _)
    have ne : le ≠ p := not_purse hp h5 (no_int_strs _)
    have nr : lr ≠ p := not_purse hp h6 (no_int_strs _)
    have lms : ms.length ≤ 20 := W.ml
    have wlen : ws.length = ms.length := h3.1
    have lbs : bs.length ≤ 8 := Nat.le_trans (nodup_le _ _ W.bn W.bo) W.base.r.2
    have les : es.length ≤ 8 := Nat.le_trans (nodup_le _ _ W.en W.eo) W.base.r.2
    have om : MOk ms bs es := ⟨fun m hm => (W.mo m hm).ok W.base, fun x hx => W.base.rw x (W.bo x hx), fun x hx => W.base.rw x (W.eo x hx)⟩
    refine ⟨_, rfl, a, _, _, .ref lm, rfl, rfl, SqL.of h1, atI_nat (j := 0) rfl, _, rfl, a, _, _, .ref lb, rfl, rfl, SqL.of h1, atI_nat (j := 1) rfl, _, rfl, a, _, _, .ref le, rfl, rfl, SqL.of h1, atI_nat (j := 2) rfl, (by show 3 ≤ sizeLine; decide), fun t0 ht0 => ?_⟩
    obtain ⟨H0, e0, s0, g0⟩ : ∃ H0, H0 = upd H t0 (.tup [.ref lm, .ref lb, .ref le]) ∧ Same H H0 ∧ H0 t0 = some (.tup [.ref lm, .ref lb, .ref le]) := ⟨_, rfl, same_upd ht0, upd_same⟩
    rw [← e0]
    clear e0
    refine ⟨t0, _, rfl, SqT.of g0, rfl, _, _, rfl, _, _, rfl, _, _, rfl, rfl, ?_⟩
    have p0 := hp.same s0
    have hw0 := hw.same s0
    refine ⟨_, rfl, lm, ws, rfl, .inl (SqL.of (s0 _ _ h2)), ?_⟩
    rw [wlen]
    refine ⟨(ms.length : Int), rfl, by omega, by omega, fun D hD => ?_⟩
    refine lc_range (lo := 0) (n := ((ms.length : Int)).toNat) (fun i H' => ∃ zs, Same H0 H' ∧ H' D = some (.lst zs) ∧ (∀ y ∈ zs, OthAt (hid H' D) y ms bs es) ∧ zs.length ≤ i) ⟨[], same_upd hD, upd_same, fun z hz => (List.not_mem_nil hz).elim, Nat.le_refl _⟩ ?_ ?_
    · rintro i H1 hi ⟨zs, sA, gD, hz, lz⟩
      have li : i < ms.length := by omega
      refine ⟨rfl, ?_⟩
      dsimp only [tYes]
      rw [if_pos rfl]
      have z2 := (s0.trans sA) _ _ h2
      refine ⟨_, rfl, _, rfl, _, rfl, lm, ws, rfl, SqL.of z2, fun q1 hq1 => ?_⟩
      obtain ⟨H2, e1, s1, g1⟩ : ∃ H2, H2 = upd H1 q1 (.lst (ws.take i)) ∧ Same H1 H2 ∧ H2 q1 = some (.lst (ws.take i)) := ⟨_, rfl, same_upd hq1, upd_same⟩
      rw [show cutV ws none (some (0 + (i : Int))) = ws.take i from by rw [Int.zero_add]; exact cut_tk i, ← e1]
      clear e1
      refine ⟨_, rfl, _, rfl, _, _, rfl, rfl, _, rfl, lm, ws, rfl, SqL.of (s1 _ _ z2), fun q2 hq2 => ?_⟩
      obtain ⟨H3, e2, s2, g2⟩ : ∃ H3, H3 = upd H2 q2 (.lst (ws.drop (i + 1))) ∧ Same H2 H3 ∧ H3 q2 = some (.lst (ws.drop (i + 1))) := ⟨_, rfl, same_upd hq2, upd_same⟩
      rw [show cutV ws (some (0 + (i : Int) + 1)) none = ws.drop (i + 1) from by rw [show (0 + (i : Int) + 1) = ((i + 1 : Nat) : Int) by omega]; exact cut_dp (i + 1) (by omega), ← e2]
      clear e2
      refine ⟨q1, q2, _, _, rfl, rfl, s2 _ _ g1, g2, (by rw [List.length_take, List.length_drop, sizeLine_eq]; omega), fun q3 hq3 => ?_⟩
      obtain ⟨H4, e3, s3, g3⟩ : ∃ H4, H4 = upd H3 q3 (.lst (ws.take i ++ ws.drop (i + 1))) ∧ Same H3 H4 ∧ H4 q3 = some (.lst (ws.take i ++ ws.drop (i + 1))) := ⟨_, rfl, same_upd hq3, upd_same⟩
      rw [← e3]
      clear e3
      refine ⟨_, rfl, _, rfl, (by show 3 ≤ sizeLine; decide), fun q4 hq4 => ?_⟩
      obtain ⟨H5, e4, s4, g4⟩ : ∃ H5, H5 = upd H4 q4 (.lst [.ref q3, .ref lb, .ref le]) ∧ Same H4 H5 ∧ H5 q4 = some (.lst [.ref q3, .ref lb, .ref le]) := ⟨_, rfl, same_upd hq4, upd_same⟩
      rw [← e4]
      clear e4
      have s15 := s1.trans (s2.trans (s3.trans s4))
      have s05 := sA.trans s15
      have sh : Same H0 (hid H5 D) := hid_base hD s05
      have d3 : q3 ≠ D := ne_of_new hq3 ((s1.trans s2) _ _ gD)
      have d4 : q4 ≠ D := ne_of_new hq4 ((s1.trans (s2.trans s3)) _ _ gD)
      refine ⟨zs, s15 _ _ gD, small1000 (by omega), zs ++ [.ref q4], fun c o e => ?_, upd_same, fun y hy => ?_, by rw [List.length_append]; exact Nat.succ_le_succ lz⟩
      · rw [upd_ne (ne_of_none e hD)]
        exact s05 _ _ e
      · rw [hid_upd]
        rcases List.mem_append.mp hy with hy | hy
        · exact (hz y hy).same (hid_mono s15)
        · rw [List.mem_singleton.mp hy]
          have ll := less_len li
          refine oth_of (ns := ms.take i ++ ms.drop (i + 1)) (cs := bs) (ds := es) (hid_of d4 g4) (hid_of d3 (s4 _ _ g3)) (((h3.same (s0.trans sh)).take i).app ((h3.same (s0.trans sh)).drop (i + 1))) (sh _ _ (s0 _ _ h4)) (sh _ _ (s0 _ _ h5)) ⟨fun m hm => om.m m (less_mem hm), om.b, om.e⟩ (by omega) (by omega) (by omega) (less_nodup W.mn i) W.bn W.en fun z => ?_
          refine srtM_ne (fun pm => ?_) z.1
          have := pm.length_eq
          omega
    · rintro H1 ⟨zs, sA, gD, hz, lz⟩
      have s01 := s0.trans sA
      have p1 := hp.same s01
      obtain ⟨op, hop⟩ := p0.some
      refine ⟨_, rfl, lm, ws, rfl, .inl (SqL.of (s01 _ _ h2)), ?_⟩
      rw [wlen]
      refine ⟨(ms.length : Int), rfl, by omega, by omega, ?_⟩
      refine for_range (fun i σ H' => ∃ fo zs v6 v7, σ = [some (.ref p), some (.ref a), some (.ref lm), some (.ref lb), some (.ref le), some (.ref fo), v6, v7, none, none] ∧ H' fo = some (.lst zs) ∧ fo ≠ p ∧ (∀ y ∈ zs, OthAt (hid H' fo) y ms bs es) ∧ zs.length ≤ 20 + i ∧ PurseAt H' p (n + 3 * i) ∧ Old p H (hid H' fo))
        ⟨D, zs, none, none, rfl, gD, ne_of_new hD hop, hz, by omega, p1, .of_same (hid_base (s0.free hD) s01)⟩ ?_ ?_
      · rintro i σ H2 hi ⟨fo, zs, v6, v7, rfl, gf, nf, hz, lz, pp, oo⟩
        have li : i < ms.length := by omega
        have o2 : Old p H H2 := oo.trans (.of_same hid_old)
        have z2 := o2 _ _ nm h2
        obtain ⟨m, em⟩ : ∃ m, ms[i]? = some m := ⟨_, List.getElem?_eq_getElem li⟩
        obtain ⟨v, ev⟩ : ∃ v, ws[i]? = some v := ⟨_, List.getElem?_eq_getElem (by rw [wlen]; exact li)⟩
        obtain ⟨b, t, rfl, gb, gt⟩ := (h3.2 i v m ev em).old hp o2
        have mem : m ∈ ms := List.mem_of_getElem? em
        obtain ⟨op2, hop2⟩ := pp.some
        refine ⟨_, rfl, _, rfl, lm, ws, _, .ref b, rfl, rfl, SqL.of z2, (by rw [Int.zero_add]; exact atI_nat (j := i) ev), 3, rfl, b, _, rfl, SqT.of gb, (fun z => absurd (show (3 : Nat) = 4 from z.2) (by decide)), fun q1 hq1 => ?_⟩
        obtain ⟨H3, e1, s1, g1⟩ : ∃ H3, H3 = upd H2 q1 (.tup [V.str m.r, .str m.j, .str m.s]) ∧ Same H2 H3 ∧ H3 q1 = some (.tup [V.str m.r, .str m.j, .str m.s]) := ⟨_, rfl, same_upd hq1, upd_same⟩
        rw [show cutV [V.str m.r, .str m.j, .str m.s, .ref t] none (some 3) = [V.str m.r, .str m.j, .str m.s] from rfl, ← e1]
        clear e1
        refine ⟨_, rfl, p, n + 3 * i, rfl, pp.same s1, by omega, fun u e H4 eok ea nu pp4 o4 fu => ?_⟩
        refine ⟨(by show 1 ≤ sizeLine; decide), fun q2 hq2 => ?_⟩
        obtain ⟨H5, e2, s2, g2⟩ : ∃ H5, H5 = upd H4 q2 (.tup [.ref u]) ∧ Same H4 H5 ∧ H5 q2 = some (.tup [.ref u]) := ⟨_, rfl, same_upd hq2, upd_same⟩
        rw [← e2]
        clear e2
        have n1 : q1 ≠ p := ne_of_new hq1 hop2
        refine ⟨q1, q2, _, _, rfl, rfl, SqT.of (s2 _ _ (o4 _ _ n1 g1)), SqT.of g2, (by show 3 + 1 ≤ sizeLine; decide), (fun z => by cases z), (fun _ z => by cases z), fun _ _ q3 hq3 => ?_⟩
        obtain ⟨H6, e3, s3, g3⟩ : ∃ H6, H6 = upd H5 q3 (.tup ([V.str m.r, .str m.j, .str m.s] ++ [.ref u])) ∧ Same H5 H6 ∧ H6 q3 = some (.tup ([V.str m.r, .str m.j, .str m.s] ++ [.ref u])) := ⟨_, rfl, same_upd hq3, upd_same⟩
        rw [← e3]
        clear e3
        have a3 : ManAt H6 (.ref q3) ⟨m.r, m.j, m.s, e⟩ := ⟨q3, u, rfl, g3, (s2.trans s3) _ _ ea⟩
        have mk' : (⟨m.r, m.j, m.s, e⟩ : Mn).Ok := ⟨(om.m m mem).r, (om.m m mem).j, (om.m m mem).s, eok⟩
        have o26 : Old p H2 H6 := (Old.of_same s1).trans (o4.trans (.of_same (s2.trans s3)))
        have z6 := o26 _ _ nm z2
        refine ⟨_, rfl, _, rfl, _, rfl, _, rfl, lm, ws, rfl, SqL.of z6, fun q4 hq4 => ?_⟩
        obtain ⟨H7, e4, s4, g4⟩ : ∃ H7, H7 = upd H6 q4 (.lst (ws.take i)) ∧ Same H6 H7 ∧ H7 q4 = some (.lst (ws.take i)) := ⟨_, rfl, same_upd hq4, upd_same⟩
        rw [show cutV ws none (some (0 + (i : Int))) = ws.take i from by rw [Int.zero_add]; exact cut_tk i, ← e4]
        clear e4
        refine ⟨_, rfl, (by show 1 ≤ sizeLine; decide), fun q5 hq5 => ?_⟩
        obtain ⟨H8, e5, s5, g5⟩ : ∃ H8, H8 = upd H7 q5 (.lst [.ref q3]) ∧ Same H7 H8 ∧ H8 q5 = some (.lst [.ref q3]) := ⟨_, rfl, same_upd hq5, upd_same⟩
        rw [← e5]
        clear e5
        refine ⟨q4, q5, _, _, rfl, rfl, s5 _ _ g4, g5, (by rw [List.length_take, sizeLine_eq]; show _ + 1 ≤ _; omega), fun q6 hq6 => ?_⟩
        obtain ⟨H9, e6, s6, g6⟩ : ∃ H9, H9 = upd H8 q6 (.lst (ws.take i ++ [.ref q3])) ∧ Same H8 H9 ∧ H9 q6 = some (.lst (ws.take i ++ [.ref q3])) := ⟨_, rfl, same_upd hq6, upd_same⟩
        rw [← e6]
        clear e6
        refine ⟨_, rfl, _, rfl, _, _, rfl, rfl, _, rfl, lm, ws, rfl, SqL.of (s6 _ _ (s5 _ _ (s4 _ _ z6))), fun q7 hq7 => ?_⟩
        obtain ⟨HA, e7, s7, g7⟩ : ∃ HA, HA = upd H9 q7 (.lst (ws.drop (i + 1))) ∧ Same H9 HA ∧ HA q7 = some (.lst (ws.drop (i + 1))) := ⟨_, rfl, same_upd hq7, upd_same⟩
        rw [show cutV ws (some (0 + (i : Int) + 1)) none = ws.drop (i + 1) from by rw [show (0 + (i : Int) + 1) = ((i + 1 : Nat) : Int) by omega]; exact cut_dp (i + 1) (by omega), ← e7]
        clear e7
        refine ⟨q6, q7, _, _, rfl, rfl, s7 _ _ g6, g7, (by rw [List.length_append, List.length_take, List.length_drop, sizeLine_eq]; show _ + 1 + _ ≤ _; omega), fun q8 hq8 => ?_⟩
        obtain ⟨HB, e8, s8, g8⟩ : ∃ HB, HB = upd HA q8 (.lst (ws.take i ++ [.ref q3] ++ ws.drop (i + 1))) ∧ Same HA HB ∧ HB q8 = some (.lst (ws.take i ++ [.ref q3] ++ ws.drop (i + 1))) := ⟨_, rfl, same_upd hq8, upd_same⟩
        rw [← e8]
        clear e8
        refine ⟨_, rfl, _, rfl, (by show 3 ≤ sizeLine; decide), fun q9 hq9 => ?_⟩
        obtain ⟨HC, e9, s9, g9⟩ : ∃ HC, HC = upd HB q9 (.lst [.ref q8, .ref lb, .ref le]) ∧ Same HB HC ∧ HC q9 = some (.lst [.ref q8, .ref lb, .ref le]) := ⟨_, rfl, same_upd hq9, upd_same⟩
        rw [← e9]
        clear e9
        refine ⟨(by show 1 ≤ sizeLine; decide), fun qa hqa => ?_⟩
        obtain ⟨HD, ea, sa, ga⟩ : ∃ HD, HD = upd HC qa (.lst [.ref q9]) ∧ Same HC HD ∧ HD qa = some (.lst [.ref q9]) := ⟨_, rfl, same_upd hqa, upd_same⟩
        rw [← ea]
        clear ea
        have s6D : Same H6 HD := s4.trans (s5.trans (s6.trans (s7.trans (s8.trans (s9.trans sa)))))
        have o2D : Old p H2 HD := o26.trans (.of_same s6D)
        have zD := o2D _ _ nm z2
        have hMD : Mans HD ws ms := h3.old hp (o2.trans o2D)
        refine ⟨_, rfl, _, rfl, dMn ⟨m.r, m.j, m.s, e⟩, ms.map dMn, (a3.same s6D).dp, .lst (SqL.of zD) hMD.dp, shaped_mn mk', shaped_mns om.m, .inr ⟨_, rfl, qa, _, _, rfl, rfl, ga, (bit_ok _).1, (bit_ok _).2.1, (bit_ok _).2.2, ?_⟩⟩
        generalize hB : (!(ms.map dMn).any fun z => PyData.eqv z (dMn ⟨m.r, m.j, m.s, e⟩)) = B
        intro qb hqb
        obtain ⟨HE, ebb, sbb, gbb⟩ : ∃ HE, HE = upd HD qb (.lst (List.replicate ((if B = true then 1 else 0 : Int)).toNat [V.ref q9]).flatten) ∧ Same HD HE ∧ HE qb = some (.lst (List.replicate ((if B = true then 1 else 0 : Int)).toNat [V.ref q9]).flatten) := ⟨_, rfl, same_upd hqb, upd_same⟩
        rw [← ebb]
        clear ebb
        have o2E : Old p H2 HE := o2D.trans (.of_same sbb)
        have rl := rep_len B (V.ref q9)
        refine ⟨fo, qb, zs, _, rfl, rfl, o2E _ _ nf gf, gbb, (by rw [sizeLine_eq]; omega), fun qc hqc => ?_⟩
        obtain ⟨HF, ec, sc, gc⟩ : ∃ HF, HF = upd HE qc (.lst (zs ++ (List.replicate ((if B = true then 1 else 0 : Int)).toNat [V.ref q9]).flatten)) ∧ Same HE HF ∧ HF qc = some (.lst (zs ++ (List.replicate ((if B = true then 1 else 0 : Int)).toNat [V.ref q9]).flatten)) := ⟨_, rfl, same_upd hqc, upd_same⟩
        rw [← ec]
        clear ec
        have pE : PurseAt HE p (n + 3 * i + 3) := pp4.same (s2.trans (s3.trans (s6D.trans sbb)))
        have oHE : Old p H HE := o2.trans o2E
        obtain ⟨opE, hopE⟩ := pE.some
        refine ⟨qc, _, _, _, rfl, gc, ne_of_new hqc hopE, fun y hy => ?_, by rw [List.length_append]; omega, (pE.same sc).up (by omega), oHE.trans (.of_same (hid_base hqc sc))⟩
        rcases List.mem_append.mp hy with hy | hy
        · exact (((hz y hy).same hid_old).old pp o2E).same (hid_base hqc sc)
        · obtain ⟨eB, rfl⟩ := rep_mem hy
          have nm' : (⟨m.r, m.j, m.s, e⟩ : Mn) ∉ ms := fun hm => by
            rw [any_mn.mpr hm, eB] at hB
            cases hB
          have hME : Mans HE ws ms := hMD.same sbb
          refine (oth_of (ns := ms.take i ++ [⟨m.r, m.j, m.s, e⟩] ++ ms.drop (i + 1)) (cs := bs) (ds := es) (sbb _ _ (sa _ _ g9)) (sbb _ _ (sa _ _ (s9 _ _ g8))) (((hME.take i).app (Mans.one (a3.same (s6D.trans sbb)))).app (hME.drop (i + 1))) (oHE _ _ nb h4) (oHE _ _ ne h5) ⟨fun x hx => ?_, om.b, om.e⟩ (by rw [swap_len li]; omega) (by omega) (by omega) (swap_nodup W.mn i nm') W.bn W.en fun z => ?_).same (hid_base hqc sc)
          · rcases swap_mem hx with rfl | hx
            · exact mk'
            · exact om.m x hx
          · refine srtM_ne (fun pm => nm' ?_) z.1
            rw [pm.mem_iff]
            simp
      · rintro σ H2 ⟨fo, zs, v6, v7, rfl, gf, nf, hz, lz, pp, oo⟩
        have o2 : Old p H H2 := oo.trans (.of_same hid_old)
        refine ⟨_, rfl, a, _, _, .ref lr, rfl, rfl, SqL.of (o2 _ _ na h1), atI_nat (j := 3) rfl, lr, rfl, ⟨_, SqL.of (o2 _ _ nr h6)⟩, ?_⟩
        refine for_list (K := K) (a := lr) (xs := rs.map V.str) (fun i σ H' => ∃ zs v8, σ = [some (.ref p), some (.ref a), some (.ref lm), some (.ref lb), some (.ref le), some (.ref fo), v6, v7, v8, none] ∧ H' fo = some (.lst zs) ∧ (∀ y ∈ zs, OthAt (hid H' fo) y ms bs es) ∧ zs.length ≤ 40 + 2 * i ∧ PurseAt H' p (n + 3 * ms.length) ∧ Old p H (hid H' fo))
          ⟨zs, none, rfl, gf, hz, by omega, pp, oo⟩ (fun i σ H' _ ⟨_, _, _, _, _, _, _, oo⟩ => SqL.of ((oo.trans (.of_same hid_old)) _ _ nr h6)) ?_ ?_
        · rintro i v σ H3 hv ⟨zs, v8, rfl, gf, hz, lz, pp, oo⟩
          have li : i < rs.length := by
            have := (List.getElem?_eq_some_iff.mp hv).1
            rw [List.length_map] at this
            exact this
          have lrs := W.base.r.2
          obtain ⟨r, hr1, rfl⟩ := item_str hv
          have Wr := W.base.rw r hr1
          have xoo := oo
          have xgf := gf
          have xhz := hz
          have xpp := pp
          have xhb := (oo.trans (.of_same hid_old)) _ _ nb h4
          refine ⟨_, rfl, .inl ⟨rfl, _, SqL.of xgf⟩, _, rfl, _, rfl, lb, rfl, ⟨_, SqL.of xhb⟩, fun xD hxD => ?_⟩
          refine lc_list (K := K) (a := lb) (xs := bs.map V.str) (fun k H' => Same H3 H' ∧ H' xD = some (.lst (((bs.take k).filter fun z => !(z == r)).map V.str))) ⟨same_upd hxD, upd_same⟩ (fun k H' _ ⟨sC, _⟩ => SqL.of (sC _ _ xhb)) ?_ ?_
          · rintro k v H' hv ⟨sC, gC⟩
            rw [List.getElem?_map] at hv
            cases ey : bs[k]? with
            | none => rw [ey] at hv; cases hv
            | some y =>
              rw [ey] at hv
              obtain rfl : V.str y = v := Option.some.inj hv
              have et : (bs.take (k + 1)).filter (fun z => !(z == r)) = (bs.take k).filter (fun z => !(z == r)) ++ (if (y == r) = true then [] else [y]) := by
                rw [List.take_succ, ey, List.filter_append]
                congr 1
                cases hyr : (y == r) <;> simp [hyr]
              refine ⟨rfl, _, rfl, _, rfl, rfl, _, rfl, ?_⟩
              rw [dec_s]
              cases hyr : (y == r) with
              | true =>
                rw [hyr, if_pos rfl, List.append_nil] at et
                exact iteF ⟨sC, by rw [et]; exact gC⟩
              | false =>
                rw [hyr, if_neg Bool.false_ne_true] at et
                refine iteT ⟨_, rfl, _, gC, small1000 (by
                  rw [List.length_map]
                  have := List.length_filter_le (fun z => !(z == r)) (bs.take k)
                  have := List.length_take_le' k bs
                  omega), fun c o e => ?_, ?_⟩
                · rw [upd_ne (ne_of_none e hxD)]
                  exact sC _ _ e
                · rw [upd_same, et, List.map_append]
                  rfl
          rintro xH1 ⟨xsC, xgC⟩
          rw [List.length_map, List.take_length] at xgC
          refine ⟨_, rfl, (by show 1 ≤ sizeLine; decide), fun xq1 hxq1 => ?_⟩
          obtain ⟨xH2, ex1, sx1, gx1⟩ : ∃ xH2, xH2 = upd xH1 xq1 (.lst [.str r]) ∧ Same xH1 xH2 ∧ xH2 xq1 = some (.lst [.str r]) := ⟨_, rfl, same_upd hxq1, upd_same⟩
          rw [← ex1]
          clear ex1
          refine ⟨_, rfl, _, rfl, lb, _, rfl, .inl (SqL.of (sx1 _ _ (xsC _ _ xhb))), rfl, flat_strs _, .inr ⟨_, rfl, xq1, _, _, rfl, rfl, gx1, (bit_ok _).1, (bit_ok _).2.1, (bit_ok _).2.2, fun xq2 hxq2 => ?_⟩⟩
          obtain ⟨xH3, ex2, sx2, gx2⟩ : ∃ xH3, xH3 = upd xH2 xq2 (.lst (List.replicate ((if (!inV (.str r) (bs.map V.str)) = true then 1 else 0 : Int)).toNat [V.str r]).flatten) ∧ Same xH2 xH3 ∧ xH3 xq2 = some (.lst (List.replicate ((if (!inV (.str r) (bs.map V.str)) = true then 1 else 0 : Int)).toNat [V.str r]).flatten) := ⟨_, rfl, same_upd hxq2, upd_same⟩
          rw [if_pos (rfl : true = true), ← ex2]
          clear ex2
          refine ⟨xD, xq2, _, _, rfl, rfl, sx2 _ _ (sx1 _ _ xgC), gx2, (by
            have l1 := rep_len (!inV (.str r) (bs.map V.str)) (V.str r)
            have l2 := List.length_filter_le (fun z => !(z == r)) bs
            rw [List.length_map, sizeLine_eq]
            omega), fun xq3 hxq3 => ?_⟩
          obtain ⟨xH4, ex3, sx3, gx3⟩ : ∃ xH4, xH4 = upd xH3 xq3 (.lst ((togL r bs).map V.str)) ∧ Same xH3 xH4 ∧ xH4 xq3 = some (.lst ((togL r bs).map V.str)) := ⟨_, rfl, same_upd hxq3, upd_same⟩
          rw [rep_tog r bs, ← ex3]
          clear ex3
          refine ⟨_, rfl, (by show 3 ≤ sizeLine; decide), fun xq4 hxq4 => ?_⟩
          obtain ⟨xH5, ex4, sx4, gx4⟩ : ∃ xH5, xH5 = upd xH4 xq4 (.lst [.ref lm, .ref xq3, .ref le]) ∧ Same xH4 xH5 ∧ xH5 xq4 = some (.lst [.ref lm, .ref xq3, .ref le]) := ⟨_, rfl, same_upd hxq4, upd_same⟩
          rw [← ex4]
          clear ex4
          have xs1 := xsC.trans (sx1.trans (sx2.trans (sx3.trans sx4)))
          have xn3 : xq3 ≠ fo := ne_of_new hxq3 (sx2 _ _ (sx1 _ _ (xsC _ _ xgf)))
          have xn4 : xq4 ≠ fo := ne_of_new hxq4 (sx3 _ _ (sx2 _ _ (sx1 _ _ (xsC _ _ xgf))))
          have xoh : Old p H (hid xH5 fo) := xoo.trans (.of_same (hid_mono xs1))
          have xnew : OthAt (hid xH5 fo) (.ref xq4) ms bs es := oth_of (ns := ms) (cs := (togL r bs)) (ds := es) (hid_of xn4 gx4) (xoh _ _ nm h2) (h3.old hp xoh) (hid_of xn3 (sx4 _ _ gx3)) (xoh _ _ ne h5) ⟨om.m, tog_word Wr om.b, om.e⟩ (by omega) (Nat.le_trans tog_len (by omega)) (by omega) W.mn (tog_nodup W.bn) W.en (fun z => tog_ne z.2.1)
          refine ⟨fo, zs, _, rfl, rfl, xs1 _ _ xgf, small1000 (by omega), ?_⟩
          have xp5 := (xpp.same xs1).upd_ne (o := .lst (zs ++ [.ref xq4])) (Ne.symm nf)
          obtain ⟨xH6, ex6, kx6, gx6, px6⟩ : ∃ H6, H6 = upd xH5 fo (.lst (zs ++ [.ref xq4])) ∧ hid H6 fo = hid xH5 fo ∧ H6 fo = some (.lst (zs ++ [.ref xq4])) ∧ PurseAt H6 p (n + 3 * ms.length) := ⟨_, rfl, hid_upd, upd_same, xp5⟩
          rw [← ex6]
          clear ex6 xp5
          have zx6 : ∀ y ∈ zs ++ [.ref xq4], OthAt (hid xH6 fo) y ms bs es := fun y hy => by
            rw [kx6]
            rcases List.mem_append.mp hy with hy | hy
            · exact (xhz y hy).same (hid_mono xs1)
            · rw [List.mem_singleton.mp hy]
              exact xnew
          have ox6 : Old p H (hid xH6 fo) := by
            rw [kx6]
            exact xoh
          obtain ⟨yzs, eyz⟩ : ∃ l, l = zs ++ [.ref xq4] := ⟨_, rfl⟩
          rw [← eyz] at gx6 zx6
          have yll : yzs.length = zs.length + 1 := by rw [eyz, List.length_append]; rfl
          have yoo := ox6
          have ygf := gx6
          have yhz := zx6
          have ypp := px6
          have yhb := (ox6.trans (.of_same hid_old)) _ _ ne h5
          refine ⟨_, rfl, .inl ⟨rfl, _, SqL.of ygf⟩, _, rfl, _, rfl, _, rfl, le, rfl, ⟨_, SqL.of yhb⟩, fun yD hyD => ?_⟩
          refine lc_list (K := K) (a := le) (xs := es.map V.str) (fun k H' => Same xH6 H' ∧ H' yD = some (.lst (((es.take k).filter fun z => !(z == r)).map V.str))) ⟨same_upd hyD, upd_same⟩ (fun k H' _ ⟨sC, _⟩ => SqL.of (sC _ _ yhb)) ?_ ?_
          · rintro k v H' hv ⟨sC, gC⟩
            rw [List.getElem?_map] at hv
            cases ey : es[k]? with
            | none => rw [ey] at hv; cases hv
            | some y =>
              rw [ey] at hv
              obtain rfl : V.str y = v := Option.some.inj hv
              have et : (es.take (k + 1)).filter (fun z => !(z == r)) = (es.take k).filter (fun z => !(z == r)) ++ (if (y == r) = true then [] else [y]) := by
                rw [List.take_succ, ey, List.filter_append]
                congr 1
                cases hyr : (y == r) <;> simp [hyr]
              refine ⟨rfl, _, rfl, _, rfl, rfl, _, rfl, ?_⟩
              rw [dec_s]
              cases hyr : (y == r) with
              | true =>
                rw [hyr, if_pos rfl, List.append_nil] at et
                exact iteF ⟨sC, by rw [et]; exact gC⟩
              | false =>
                rw [hyr, if_neg Bool.false_ne_true] at et
                refine iteT ⟨_, rfl, _, gC, small1000 (by
                  rw [List.length_map]
                  have := List.length_filter_le (fun z => !(z == r)) (es.take k)
                  have := List.length_take_le' k es
                  omega), fun c o e => ?_, ?_⟩
                · rw [upd_ne (ne_of_none e hyD)]
                  exact sC _ _ e
                · rw [upd_same, et, List.map_append]
                  rfl
          rintro yH1 ⟨ysC, ygC⟩
          rw [List.length_map, List.take_length] at ygC
          refine ⟨_, rfl, (by show 1 ≤ sizeLine; decide), fun yq1 hyq1 => ?_⟩
          obtain ⟨yH2, ey1, sy1, gy1⟩ : ∃ yH2, yH2 = upd yH1 yq1 (.lst [.str r]) ∧ Same yH1 yH2 ∧ yH2 yq1 = some (.lst [.str r]) := ⟨_, rfl, same_upd hyq1, upd_same⟩
          rw [← ey1]
          clear ey1
          refine ⟨_, rfl, _, rfl, le, _, rfl, .inl (SqL.of (sy1 _ _ (ysC _ _ yhb))), rfl, flat_strs _, .inr ⟨_, rfl, yq1, _, _, rfl, rfl, gy1, (bit_ok _).1, (bit_ok _).2.1, (bit_ok _).2.2, fun yq2 hyq2 => ?_⟩⟩
          obtain ⟨yH3, ey2, sy2, gy2⟩ : ∃ yH3, yH3 = upd yH2 yq2 (.lst (List.replicate ((if (!inV (.str r) (es.map V.str)) = true then 1 else 0 : Int)).toNat [V.str r]).flatten) ∧ Same yH2 yH3 ∧ yH3 yq2 = some (.lst (List.replicate ((if (!inV (.str r) (es.map V.str)) = true then 1 else 0 : Int)).toNat [V.str r]).flatten) := ⟨_, rfl, same_upd hyq2, upd_same⟩
          rw [if_pos (rfl : true = true), ← ey2]
          clear ey2
          refine ⟨yD, yq2, _, _, rfl, rfl, sy2 _ _ (sy1 _ _ ygC), gy2, (by
            have l1 := rep_len (!inV (.str r) (es.map V.str)) (V.str r)
            have l2 := List.length_filter_le (fun z => !(z == r)) es
            rw [List.length_map, sizeLine_eq]
            omega), fun yq3 hyq3 => ?_⟩
          obtain ⟨yH4, ey3, sy3, gy3⟩ : ∃ yH4, yH4 = upd yH3 yq3 (.lst ((togL r es).map V.str)) ∧ Same yH3 yH4 ∧ yH4 yq3 = some (.lst ((togL r es).map V.str)) := ⟨_, rfl, same_upd hyq3, upd_same⟩
          rw [rep_tog r es, ← ey3]
          clear ey3
          refine ⟨(by show 3 ≤ sizeLine; decide), fun yq4 hyq4 => ?_⟩
          obtain ⟨yH5, ey4, sy4, gy4⟩ : ∃ yH5, yH5 = upd yH4 yq4 (.lst [.ref lm, .ref lb, .ref yq3]) ∧ Same yH4 yH5 ∧ yH5 yq4 = some (.lst [.ref lm, .ref lb, .ref yq3]) := ⟨_, rfl, same_upd hyq4, upd_same⟩
          rw [← ey4]
          clear ey4
          have ys1 := ysC.trans (sy1.trans (sy2.trans (sy3.trans sy4)))
          have yn3 : yq3 ≠ fo := ne_of_new hyq3 (sy2 _ _ (sy1 _ _ (ysC _ _ ygf)))
          have yn4 : yq4 ≠ fo := ne_of_new hyq4 (sy3 _ _ (sy2 _ _ (sy1 _ _ (ysC _ _ ygf))))
          have yoh : Old p H (hid yH5 fo) := yoo.trans (.of_same (hid_mono ys1))
          have ynew : OthAt (hid yH5 fo) (.ref yq4) ms bs es := oth_of (ns := ms) (cs := bs) (ds := (togL r es)) (hid_of yn4 gy4) (yoh _ _ nm h2) (h3.old hp yoh) (yoh _ _ nb h4) (hid_of yn3 (sy4 _ _ gy3)) ⟨om.m, om.b, tog_word Wr om.e⟩ (by omega) (by omega) (Nat.le_trans tog_len (by omega)) W.mn W.bn (tog_nodup W.en) (fun z => tog_ne z.2.2)
          refine ⟨fo, yzs, _, rfl, rfl, ys1 _ _ ygf, small1000 (by omega), ?_⟩
          have yp5 := (ypp.same ys1).upd_ne (o := .lst (yzs ++ [.ref yq4])) (Ne.symm nf)
          obtain ⟨yH6, ey6, ky6, gy6, py6⟩ : ∃ H6, H6 = upd yH5 fo (.lst (yzs ++ [.ref yq4])) ∧ hid H6 fo = hid yH5 fo ∧ H6 fo = some (.lst (yzs ++ [.ref yq4])) ∧ PurseAt H6 p (n + 3 * ms.length) := ⟨_, rfl, hid_upd, upd_same, yp5⟩
          rw [← ey6]
          clear ey6 yp5
          have zy6 : ∀ y ∈ yzs ++ [.ref yq4], OthAt (hid yH6 fo) y ms bs es := fun y hy => by
            rw [ky6]
            rcases List.mem_append.mp hy with hy | hy
            · exact (yhz y hy).same (hid_mono ys1)
            · rw [List.mem_singleton.mp hy]
              exact ynew
          have oy6 : Old p H (hid yH6 fo) := by
            rw [ky6]
            exact yoh
          exact ⟨yzs ++ [.ref yq4], _, rfl, gy6, zy6, by rw [List.length_append]; show yzs.length + 1 ≤ _; omega, py6, oy6⟩
        · rintro σ H3 ⟨zs, v8, rfl, gf, hz, lz, pp, oo⟩
          rw [List.length_map] at lz
          have lrs := W.base.r.2
          have o3 : Old p H H3 := oo.trans (.of_same hid_old)
          refine ⟨_, rfl, _, rfl, p, fo, zs, n + 3 * ms.length, rfl, gf, nf, by omega, pp, by omega, fun q1 ys H4 pm g4 nq pp4 o4 f4 => ?_⟩
          refine ⟨12, rfl, q1, ys, rfl, SqL.of g4, fun q2 hq2 => ?_⟩
          obtain ⟨H5, e5, s5, g5⟩ : ∃ H5, H5 = upd H4 q2 (.lst (ys.take 12)) ∧ Same H4 H5 ∧ H5 q2 = some (.lst (ys.take 12)) := ⟨_, rfl, same_upd hq2, upd_same⟩
          rw [show cutV ys none (some 12) = ys.take 12 from cut_tk 12, ← e5]
          clear e5
          refine ⟨_, rfl, _, rfl, _, rfl, (by show 3 ≤ sizeLine; decide), fun q3 hq3 => ?_⟩
          obtain ⟨H6, e6, s6, g6⟩ : ∃ H6, H6 = upd H5 q3 (.lst [.ref lm, .ref le, .ref lb]) ∧ Same H5 H6 ∧ H6 q3 = some (.lst [.ref lm, .ref le, .ref lb]) := ⟨_, rfl, same_upd hq3, upd_same⟩
          rw [← e6]
          clear e6
          refine ⟨(by show 1 ≤ sizeLine; decide), fun q4 hq4 => ?_⟩
          obtain ⟨H7, e7, s7, g7⟩ : ∃ H7, H7 = upd H6 q4 (.lst [.ref q3]) ∧ Same H6 H7 ∧ H7 q4 = some (.lst [.ref q3]) := ⟨_, rfl, same_upd hq4, upd_same⟩
          rw [← e7]
          clear e7
          have s47 := s5.trans (s6.trans s7)
          have o7 : Old p H H7 := o3.trans (o4.trans (.of_same s47))
          refine ⟨_, rfl, ?_⟩
          dsimp only [tNil]
          refine sortW (SqL.of (o7 _ _ nb h4)) fun q5 hq5 => ?_
          obtain ⟨H8, e8, s8, g8⟩ : ∃ H8, H8 = upd H7 q5 (.lst ((srtW bs).map V.str)) ∧ Same H7 H8 ∧ H8 q5 = some (.lst ((srtW bs).map V.str)) := ⟨_, rfl, same_upd hq5, upd_same⟩
          rw [← e8]
          clear e8
          refine ⟨_, rfl, ?_⟩
          dsimp only [tNil]
          refine sortW (SqL.of (s8 _ _ (o7 _ _ ne h5))) fun q6 hq6 => ?_
          obtain ⟨H9, e9, s9, g9⟩ : ∃ H9, H9 = upd H8 q6 (.lst ((srtW es).map V.str)) ∧ Same H8 H9 ∧ H9 q6 = some (.lst ((srtW es).map V.str)) := ⟨_, rfl, same_upd hq6, upd_same⟩
          rw [← e9]
          clear e9
          refine ⟨dWs (srtW bs), dWs (srtW es), .lst (SqL.of (s9 _ _ g8)) (dp_words _), .lst (SqL.of g9) (dp_words _), shaped_words om.srt.b, shaped_words om.srt.e, .inr ⟨_, rfl, q4, _, _, rfl, rfl, (s8.trans s9) _ _ g7, (bit_ok _).1, (bit_ok _).2.1, (bit_ok _).2.2, ?_⟩⟩
          rw [eqv_dWs]
          generalize hB : (!decide (srtW bs = srtW es)) = B
          intro q7 hq7
          obtain ⟨HA, ebb, sbb, gbb⟩ : ∃ HA, HA = upd H9 q7 (.lst (List.replicate ((if B = true then 1 else 0 : Int)).toNat [V.ref q3]).flatten) ∧ Same H9 HA ∧ HA q7 = some (.lst (List.replicate ((if B = true then 1 else 0 : Int)).toNat [V.ref q3]).flatten) := ⟨_, rfl, same_upd hq7, upd_same⟩
          rw [← ebb]
          clear ebb
          have s4A := s47.trans (s8.trans (s9.trans sbb))
          have s5A := s6.trans (s7.trans (s8.trans (s9.trans sbb)))
          have rl := rep_len B (V.ref q3)
          have lys : ys.length = zs.length := pm.length_eq
          refine ⟨q2, q7, _, _, rfl, rfl, s5A _ _ g5, gbb, (by rw [List.length_take, sizeLine_eq]; omega), fun q8 hq8 => ?_⟩
          obtain ⟨HB, ecc, scc, gcc⟩ : ∃ HB, HB = upd HA q8 (.lst (ys.take 12 ++ (List.replicate ((if B = true then 1 else 0 : Int)).toNat [V.ref q3]).flatten)) ∧ Same HA HB ∧ HB q8 = some (.lst (ys.take 12 ++ (List.replicate ((if B = true then 1 else 0 : Int)).toNat [V.ref q3]).flatten)) := ⟨_, rfl, same_upd hq8, upd_same⟩
          rw [← ecc]
          clear ecc
          have o4B : Old p H3 HB := o4.trans (.of_same (s4A.trans scc))
          have oB := o3.trans o4B
          have pA : PurseAt HA p (n + 3 * ms.length + zs.length) := pp4.same s4A
          obtain ⟨opA, hopA⟩ := pA.some
          refine q q8 _ HB gcc (fun y hy => ?_) ((pA.same scc).up (by omega)) oB ((o3.trans (o4.trans (.of_same s4A))).free hopA hq8)
          rcases List.mem_append.mp hy with hy | hy
          · exact ((hz y (pm.mem_iff.mp (take_mem hy))).same hid_old).old pp o4B
          · obtain ⟨eB, rfl⟩ := rep_mem hy
            refine oth_of (ns := ms) (cs := es) (ds := bs) (scc _ _ (sbb _ _ (s9 _ _ (s8 _ _ (s7 _ _ g6))))) (oB _ _ nm h2) (h3.old hp oB) (oB _ _ ne h5) (oB _ _ nb h4) ⟨om.m, om.e, om.b⟩ (by omega) (by omega) (by omega) W.mn W.en W.bn fun z => ?_
            rw [decide_eq_true z.2.1, eB] at hB
            cases hB
end
end L2.K03
set_option Elab.async false
set_option linter.all false
set_option maxRecDepth 100000
set_option maxHeartbeats 4000000
namespace L2.K03
open PySem PySem.Spec PyProof.Rows L2.EV L2
mutual
/-- no names, no sums -/
def clT : T → Bool
  | .v _ => true
  | .tup ts => clsT ts
  | .lst ts => clsT ts
  | .dct _ ts => clsT ts
  | _ => false
def clsT : List T → Bool
  | [] => true
  | t :: ts => clT t && clsT ts
end
mutual
theorem val_self {σ : St} : ∀ {t : T}, clT t = true → Val σ t t
  | .v x, _ => .v x
  | .tup ts, h => .tup (vls_self (by unfold clT at h; exact h))
  | .lst ts, h => .lst (vls_self (by unfold clT at h; exact h))
  | .dct ks ts, h => .dct (vls_self (by unfold clT at h; exact h))
  | .sl i, h => by unfold clT at h; cases h
  | .op f a b, h => by unfold clT at h; cases h
theorem vls_self {σ : St} : ∀ {ts : List T}, clsT ts = true → Vls σ ts ts
  | [], _ => .nil
  | t :: ts, h => by
    unfold clsT at h
    obtain ⟨h1, h2⟩ := Bool.and_eq_true_iff.mp h
    exact .cons (val_self h1) (vls_self h2)
end
/-! ### what a laid thing is -/
/-- the type of a thing; none where a leaf is no plain value -/
def tyT : T → Option String
  | .v .non => some "NoneType"
  | .v (.bl _) => some "bool"
  | .v (.int _) => some "int"
  | .v (.str _) => some "str"
  | .tup _ => some "tuple"
  | .lst _ => some "list"
  | .dct _ _ => some "dict"
  | _ => none
theorem ty_T {K : PySem.W.Frag} {H : Hp} {x : V} {t : T} {n : String} (h : Laid H x t) (e : tyT t = some n) : TyX K H x (.type n) := by
  cases h with
  | v x =>
    cases x <;> first | cases e | skip
    · exact .base .non
    · exact .base (.bl _)
    · exact .base (.int _)
    · exact .base (.str _)
  | tup h l =>
    cases e
    exact .base (.tup h)
  | lst h l =>
    cases e
    exact .base (.lst h)
  | dct h l =>
    cases e
    exact .base (.dK h)
def isT (n m : String) : Bool := (kitB n m).getD false
theorem kit_T {K : PySem.W.Frag} {t : T} {n : String} (e : tyT t = some n) (m : String) (hm : m ∈ (["bool", "int", "str", "tuple", "list", "dict"] : List String)) : PySem.W.kitOne K (.type n) (.type m) = some (isT n m) := by
  have all : (["NoneType", "bool", "int", "str", "tuple", "list", "dict"] : List String).all (fun n => (["bool", "int", "str", "tuple", "list", "dict"] : List String).all fun m => (kitB n m).isSome) = true := by decide +kernel
  have hn : n ∈ (["NoneType", "bool", "int", "str", "tuple", "list", "dict"] : List String) := by
    unfold tyT at e
    split at e <;> first | cases e | skip
    all_goals simp
  have h := List.all_eq_true.mp (List.all_eq_true.mp all n hn) m hm
  obtain ⟨b, hb⟩ := Option.isSome_iff_exists.mp h
  refine kit_ty (by unfold isT; rw [hb]; rfl)
def cntT : T → Bool
  | .v (.int i) => decide (0 ≤ i)
  | _ => false
def numT : T → Bool
  | .v (.int i) => decide (0 ≤ i) && decide (i ≤ 3)
  | _ => false
def effT : T → Bool
  | .tup (.v (.str z) :: ts) => (match behind z with
    | some k => decide (ts.length = k) && ts.all numT
    | none => false)
  | _ => false
def wdT : T → Bool
  | .v (.str x) => wordB x
  | _ => false
def manT : T → Bool
  | .tup [a, b, c, e] => effT e && (wdT a && (wdT b && wdT c))
  | _ => false
mutual
/-- leaves plain, texts short, lists and tuples of plain things short -/
def okT : T → Bool
  | .v (.str x) => decide (x.length ≤ 900)
  | .v x => flatV x
  | .tup ts => decide (ts.length ≤ 900) && oksT ts
  | .lst ts => decide (ts.length ≤ 900) && oksT ts
  | .dct ks ts => decide (ts.length ≤ 900) && lfsT ts
  | _ => false
def oksT : List T → Bool
  | [] => true
  | t :: ts => okT t && oksT ts
/-- plain leaves alone -/
def lfsT : List T → Bool
  | [] => true
  | .v x :: ts => flatV x && lfsT ts
  | _ :: _ => false
end
theorem ok_ty : ∀ {t : T}, okT t = true → ∃ n, tyT t = some n := by
  intro t h
  cases t with
  | v x =>
    cases x <;> first | exact ⟨_, rfl⟩ | (unfold okT at h; cases h)
  | tup ts => exact ⟨_, rfl⟩
  | lst ts => exact ⟨_, rfl⟩
  | dct ks ts => exact ⟨_, rfl⟩
  | sl i =>
    unfold okT at h
    cases h
  | op f a b =>
    unfold okT at h
    cases h
theorem num_T {K : PySem.W.Frag} {H : Hp} {x : V} {t : T} (o : okT t = true) (h : Laid H x t) : Num K H x (numT t) := by
  obtain ⟨n, e⟩ := ok_ty o
  have ty : ∀ H', Same H H' → TyX K H' x (.type n) := fun H' s => ty_T (h.same s) e
  have ki := kit_T (K := K) e "int" (by simp)
  cases h with
  | v x =>
    cases x with
    | int i => exact .int i
    | bl b => exact .bl b
    | non =>
      cases e
      exact .oth ty ki
    | str y =>
      cases e
      exact .oth ty ki
    | byt y => cases e
    | flt y => cases e
    | ref a => cases e
    | ty m => cases e
  | tup h l =>
    cases e
    exact .oth ty ki
  | lst h l =>
    cases e
    exact .oth ty ki
  | dct h l =>
    cases e
    exact .oth ty ki
theorem wd_T {K : PySem.W.Frag} {H : Hp} {x : V} {t : T} (o : okT t = true) (h : Laid H x t) : WdF K H x (wdT t) := by
  obtain ⟨n, e⟩ := ok_ty o
  have ty : ∀ H', Same H H' → TyX K H' x (.type n) := fun H' s => ty_T (h.same s) e
  have ki := kit_T (K := K) e "str" (by simp)
  cases h with
  | v x =>
    cases x with
    | str y =>
      unfold okT at o
      exact .str (Nat.le_of_lt (small1000 (by have := of_decide_eq_true o; omega)))
    | int i =>
      cases e
      exact .oth ty ki
    | bl b =>
      cases e
      exact .oth ty ki
    | non =>
      cases e
      exact .oth ty ki
    | byt y => cases e
    | flt y => cases e
    | ref a => cases e
    | ty m => cases e
  | tup h l =>
    cases e
    exact .oth ty ki
  | lst h l =>
    cases e
    exact .oth ty ki
  | dct h l =>
    cases e
    exact .oth ty ki
theorem oks_at : ∀ {ts : List T} {i : Nat} {t : T}, oksT ts = true → ts[i]? = some t → okT t = true
  | u :: us, 0, t, o, e => by
    unfold oksT at o
    cases e
    exact (Bool.and_eq_true_iff.mp o).1
  | u :: us, i + 1, t, o, e => by
    unfold oksT at o
    exact oks_at (i := i) (Bool.and_eq_true_iff.mp o).2 e
theorem eff_T {K : PySem.W.Frag} {H : Hp} {x : V} {t : T} (o : okT t = true) (h : Laid H x t) : EffF K H x (effT t) := by
  obtain ⟨n, e⟩ := ok_ty o
  have ty := ty_T (K := K) h e
  have ki := kit_T (K := K) e "tuple" (by simp)
  cases h with
  | v x =>
    cases x <;> cases e <;> exact .no ty ki
  | lst h l =>
    cases e
    exact .no ty ki
  | dct h l =>
    cases e
    exact .no ty ki
  | @tup a xs ts h l =>
    have o2 : oksT ts = true := by
      unfold okT at o
      exact (Bool.and_eq_true_iff.mp o).2
    cases l with
    | nil => exact .nil h
    | @cons y u ys us l1 l2 =>
      have ou : okT u = true := oks_at (i := 0) o2 rfl
      obtain ⟨m, e1⟩ := ok_ty ou
      have ty1 := ty_T (K := K) l1 e1
      have ki1 := kit_T (K := K) e1 "str" (by simp)
      cases l1 with
      | v y =>
        cases y with
        | str z =>
          cases hz : behind z with
          | none =>
            have : effT (.tup (.v (.str z) :: us)) = false := by
              show (match behind z with | some k => decide (us.length = k) && us.all numT | none => false) = _
              rw [hz]
            rw [this]
            exact .word h hz
          | some k =>
            have er : effT (.tup (.v (.str z) :: us)) = (decide (us.length = k) && us.all numT) := by
              show (match behind z with | some k => decide (us.length = k) && us.all numT | none => false) = _
              rw [hz]
            rw [er]
            by_cases hk : us.length = k
            · rw [decide_eq_true hk, Bool.true_and]
              have hl : ys.length = k := by rw [← l2.length]; exact hk
              have e2 : us.all numT = (us.map numT).all id := by rw [List.all_map]; rfl
              rw [e2]
              refine EffF.some h (by rw [hz, hl]) (by rw [List.length_map, l2.length]) fun i x r hx hr => ?_
              rw [List.getElem?_map] at hr
              obtain ⟨t, ht, lt⟩ := l2.at hx
              rw [ht] at hr
              obtain rfl : numT t = r := Option.some.inj hr
              exact num_T (oks_at (i := i + 1) o2 ht) lt
            · rw [decide_eq_false hk]
              exact .len h hz (by rw [← l2.length]; exact hk)
        | int i =>
          cases e1
          exact .odd h ty1 ki1
        | bl b =>
          cases e1
          exact .odd h ty1 ki1
        | non =>
          cases e1
          exact .odd h ty1 ki1
        | byt y => cases e1
        | flt y => cases e1
        | ref a => cases e1
        | ty m => cases e1
      | tup h2 _ =>
        cases e1
        exact .odd h ty1 ki1
      | lst h2 _ =>
        cases e1
        exact .odd h ty1 ki1
      | dct h2 _ =>
        cases e1
        exact .odd h ty1 ki1
theorem man_T {K : PySem.W.Frag} {H : Hp} {x : V} {t : T} (o : okT t = true) (h : Laid H x t) : ManF K H x (manT t) := by
  obtain ⟨n, e⟩ := ok_ty o
  have ty := ty_T (K := K) h e
  have ki := kit_T (K := K) e "tuple" (by simp)
  cases h with
  | v x =>
    cases x <;> cases e <;> exact .no ty ki
  | lst h l =>
    cases e
    exact .no ty ki
  | dct h l =>
    cases e
    exact .no ty ki
  | @tup a xs ts h l =>
    have o2 : oksT ts = true := by
      unfold okT at o
      exact (Bool.and_eq_true_iff.mp o).2
    by_cases h4 : ts.length = 4
    · match ts, h4, l, o2 with
      | [t1, t2, t3, t4], _, .cons l1 (.cons l2 (.cons l3 (.cons l4 .nil))), o2 =>
        have q1 := wd_T (K := K) (oks_at (i := 0) o2 rfl) l1
        have q2 := wd_T (K := K) (oks_at (i := 1) o2 rfl) l2
        have q3 := wd_T (K := K) (oks_at (i := 2) o2 rfl) l3
        have q4 := eff_T (K := K) (oks_at (i := 3) o2 rfl) l4
        have er : manT (.tup [t1, t2, t3, t4]) = (effT t4 && (wdT t1 && (wdT t2 && wdT t3))) := rfl
        rw [er]
        cases he : effT t4 with
        | false =>
          rw [he] at q4
          exact .eff h q4
        | true =>
          rw [he] at q4
          have e3 : (true && (wdT t1 && (wdT t2 && wdT t3))) = [wdT t1, wdT t2, wdT t3].all id := by simp
          rw [e3]
          refine .some h q4 ⟨rfl, fun i x r hx hr => ?_⟩
          match i, hx, hr with
          | 0, hx, hr =>
            cases hx
            cases hr
            exact q1
          | 1, hx, hr =>
            cases hx
            cases hr
            exact q2
          | 2, hx, hr =>
            cases hx
            cases hr
            exact q3
    · have er : manT (.tup ts) = false := by
        unfold manT
        split
        · next q =>
          cases q
          exact absurd rfl h4
        · rfl
      rw [er]
      exact .len h (by rw [← l.length]; exact h4)
mutual
def dpT : T → Nat
  | .tup ts => dpsT ts + 1
  | .lst ts => dpsT ts + 1
  | .dct _ _ => 3
  | _ => 1
def dpsT : List T → Nat
  | [] => 1
  | t :: ts => max (dpT t) (dpsT ts)
end
theorem Alm.mono {K : PySem.W.Frag} {H : Hp} : ∀ {n m : Nat} {x y : V}, Alm K H n x y → n ≤ m → Alm K H m x y := by
  intro n m x y h
  induction h generalizing m with
  | flat h =>
    intro l
    obtain ⟨k, rfl⟩ : ∃ k, m = k + 1 := ⟨m - 1, by omega⟩
    exact .flat h
  | lst h1 h2 h3 h4 _ ih =>
    intro l
    obtain ⟨k, rfl⟩ : ∃ k, m = k + 1 := ⟨m - 1, by omega⟩
    exact .lst h1 h2 h3 h4 fun i x y a b => ih i x y a b (by omega)
  | tup h1 h2 h3 h4 _ ih =>
    intro l
    obtain ⟨k, rfl⟩ : ∃ k, m = k + 1 := ⟨m - 1, by omega⟩
    exact .tup h1 h2 h3 h4 fun i x y a b => ih i x y a b (by omega)
  | man h o =>
    intro l
    obtain ⟨k, rfl⟩ : ∃ k, m = k + 1 := ⟨m - 1, by omega⟩
    exact .man h o
  | dct h1 h2 h3 h4 =>
    intro l
    obtain ⟨k, rfl⟩ : ∃ k, m = k + 3 := ⟨m - 3, by omega⟩
    exact .dct h1 h2 h3 h4
theorem lfs_flat {H : Hp} : ∀ {xs : List V} {ts : List T}, Lds H xs ts → lfsT ts = true → ∀ x ∈ xs, flatV x = true
  | _, _, .nil, _, x, hx => by cases hx
  | _, _, .cons (t := t) h l, o, x, hx => by
    cases h with
    | v y =>
      unfold lfsT at o
      obtain ⟨o1, o2⟩ := Bool.and_eq_true_iff.mp o
      rcases List.mem_cons.mp hx with rfl | hx
      · exact o1
      · exact lfs_flat l o2 x hx
    | tup _ _ =>
      unfold lfsT at o
      cases o
    | lst _ _ =>
      unfold lfsT at o
      cases o
    | dct _ _ =>
      unfold lfsT at o
      cases o
mutual
theorem alm_self {K : PySem.W.Frag} {H : Hp} : ∀ {x : V} {t : T}, Laid H x t → okT t = true → Alm K H (dpT t) x x
  | _, _, .v x, o => .flat (by
    cases x <;> first | rfl | (unfold okT at o; exact o))
  | _, _, .tup (ts := ts) h l, o => by
    unfold okT at o
    obtain ⟨o1, o2⟩ := Bool.and_eq_true_iff.mp o
    have := of_decide_eq_true o1
    have hl := l.length
    exact .tup h h rfl (by omega) (alms_self l o2)
  | _, _, .lst (ts := ts) h l, o => by
    unfold okT at o
    obtain ⟨o1, o2⟩ := Bool.and_eq_true_iff.mp o
    have := of_decide_eq_true o1
    have hl := l.length
    exact .lst h h rfl (by omega) (alms_self l o2)
  | _, _, .dct (kvs := kvs) h l, o => by
    unfold okT at o
    obtain ⟨o1, o2⟩ := Bool.and_eq_true_iff.mp o
    have := of_decide_eq_true o1
    have hl := l.length
    rw [List.length_map] at hl
    exact Alm.dct (n := 0) h h (by omega) fun p hp => lfs_flat l o2 p.2 (List.mem_map_of_mem hp)
theorem alms_self {K : PySem.W.Frag} {H : Hp} : ∀ {xs : List V} {ts : List T}, Lds H xs ts → oksT ts = true → ∀ (i : Nat) (x y : V), xs[i]? = some x → xs[i]? = some y → Alm K H (dpsT ts) x y
  | _, _, .nil, _, i, x, y, hx, _ => by cases hx
  | _, _, .cons (t := t) (ts := ts) h l, o, i, x, y, hx, hy => by
    unfold oksT at o
    obtain ⟨o1, o2⟩ := Bool.and_eq_true_iff.mp o
    have e : dpsT (t :: ts) = max (dpT t) (dpsT ts) := by rw [dpsT]
    rw [e]
    match i, hx, hy with
    | 0, hx, hy =>
      cases hx
      cases hy
      exact (alm_self h o1).mono (Nat.le_max_left _ _)
    | i + 1, hx, hy => exact (alms_self l o2 i x y hx hy).mono (Nat.le_max_right _ _)
end
/-! ### what is refused -/
theorem Self.same {K : PySem.W.Frag} {H H' : Hp} {v : V} (h : Self K H v) (s : Same H H') : Self K H' v := by
  refine ⟨fun H2 s2 => h.1 H2 (s.trans s2), ?_⟩
  rcases h.2 with ⟨t, a, b, c⟩ | ⟨l, xs, e, hl, few, al⟩
  · exact .inl ⟨t, b H' s, fun H2 s2 => b H2 (s.trans s2), c⟩
  · exact .inr ⟨l, xs, e, s _ _ hl, few, fun x hx H2 s2 => al x hx H2 fun c o n z => s2 c o n (s _ _ z)⟩
/-- a new list of things that are like themselves -/
theorem self_lst {K : PySem.W.Frag} {H H' : Hp} {l : Addr} {xs : List V} (hl : H l = none) (s : Same H H') (g : H' l = some (.lst xs)) (few : xs.length ≤ 800) (al : ∀ x ∈ xs, Alm K H 5 x x) : Self K H' (.ref l) := by
  refine ⟨fun H2 s2 => ?_, .inr ⟨l, xs, rfl, g, few, fun x hx H2 s2 => ?_⟩⟩
  · refine .lst (s2 _ _ g) (s2 _ _ g) rfl (by omega) fun i x y p q => ?_
    rw [p] at q
    cases q
    exact (al x (List.mem_of_getElem? p)).same (s.trans s2)
  · exact (al x hx).same fun c o e => s2 c o (ne_of_none e hl) (s _ _ e)
/-- a plain thing that is no list -/
theorem self_T {K : PySem.W.Frag} {H : Hp} {x : V} {t : T} {n : String} (o : okT t = true) (h : Laid H x t) (e : tyT t = some n) (nl : n ≠ "list") (d : dpT t ≤ 6) : Self K H x := by
  refine ⟨fun H' s => (alm_self (h.same s) o).mono d, .inl ⟨.type n, ty_T h e, fun H' s => ty_T (h.same s) e, ?_⟩⟩
  have k := kit_T (K := K) e "list" (by simp)
  rw [k]
  unfold tyT at e
  split at e <;> first | (cases e; rfl) | (cases e; exact absurd rfl nl) | cases e
/-- no list at all -/
def NoL (K : PySem.W.Frag) (H : Hp) (v : V) : Prop := ∃ t, (∀ H', Same H H' → TyX K H' v t) ∧ PySem.W.kitOne K t (.type "list") = some false
theorem NoL.same {K : PySem.W.Frag} {H H' : Hp} {v : V} (h : NoL K H v) (s : Same H H') : NoL K H' v := by
  obtain ⟨t, a, b⟩ := h
  exact ⟨t, fun H2 s2 => a H2 (s.trans s2), b⟩
theorem NoL.ms {K : PySem.W.Frag} {H : Hp} {v : V} (h : NoL K H v) : MsL K H v false := fun H' s => by
  obtain ⟨t, a, b⟩ := h
  exact .no (a H' s) b
theorem NoL.rm {K : PySem.W.Frag} {H : Hp} {v : V} (h : NoL K H v) : RmL K H v false := fun H' s => by
  obtain ⟨t, a, b⟩ := h
  exact .no (.no (a H' s) b)
theorem noL_T {K : PySem.W.Frag} {H : Hp} {x : V} {t : T} {n : String} (h : Laid H x t) (e : tyT t = some n) (nl : n ≠ "list") : NoL K H x := by
  refine ⟨.type n, fun H' s => ty_T (h.same s) e, ?_⟩
  have k := kit_T (K := K) e "list" (by simp)
  rw [k]
  unfold tyT at e
  split at e <;> first | (cases e; rfl) | (cases e; exact absurd rfl nl) | cases e
theorem noL_tup {K : PySem.W.Frag} {H : Hp} {a : Addr} {xs : List V} (h : H a = some (.tup xs)) : NoL K H (.ref a) := ⟨.type "tuple", fun H' s => .base (.tup (s _ _ h)), kit_ty (by decide +kernel)⟩
theorem noL_man {K : PySem.W.Frag} {H : Hp} {x : Addr} {ms : List Mn} {bs es : List Str} (M : My K) (N : MyT K) (h : ManuAt K H x ms bs es) : NoL K H (.ref x) := by
  obtain ⟨dx, p, q, r, fs, ys, h1, _⟩ := h
  exact ⟨.ref (aC K), fun H' s => .base (.ins (s _ _ h1) M.c M.ha M.hn M.ht M.hm), N.l⟩
theorem self_man {K : PySem.W.Frag} {H : Hp} {x : Addr} {ms : List Mn} {bs es : List Str} (M : My K) (N : MyT K) (h : ManuAt K H x ms bs es) (o : MOk ms bs es) : Self K H (.ref x) := by
  obtain ⟨t, a, b⟩ := noL_man M N h
  exact ⟨fun H' s => .man (h.same s) o, .inl ⟨t, a H (fun _ _ e => e), a, b⟩⟩
theorem self_tup {K : PySem.W.Frag} {H : Hp} {a : Addr} {xs : List V} (h : H a = some (.tup xs)) (few : xs.length ≤ 900) (al : ∀ x ∈ xs, Alm K H 5 x x) : Self K H (.ref a) := by
  refine ⟨fun H' s => .tup (s _ _ h) (s _ _ h) rfl few fun i x y p q => ?_, .inl ⟨.type "tuple", .base (.tup h), fun H' s => .base (.tup (s _ _ h)), kit_ty (by decide +kernel)⟩⟩
  rw [p] at q
  cases q
  exact (al x (List.mem_of_getElem? p)).same s
open Classical in
theorem bad_ms {K : PySem.W.Frag} {H : Hp} {a : Addr} {xs : List V} (ha : H a = some (.lst xs)) (few : xs.length ≤ 900) (h : ∀ x ∈ xs, ∃ r, ManL K H x r) (b : ∃ x ∈ xs, ManL K H x false) : MsL K H (.ref a) false := fun H' s => by
  refine MannersF.bad (rs := xs.map fun x => !decide (ManL K H x false)) (s _ _ ha) few (by rw [List.length_map]) (fun i x r p q => ?_) ?_
  · rw [List.getElem?_map, p] at q
    have mem := List.mem_of_getElem? p
    obtain rfl : (!decide (ManL K H x false)) = r := Option.some.inj q
    by_cases c : ManL K H x false
    · rw [decide_eq_true c]
      exact c.same s
    · rw [decide_eq_false c]
      obtain ⟨r, hr⟩ := h x mem
      cases r
      · exact absurd hr c
      · exact hr.same s
  · obtain ⟨x, hx, c⟩ := b
    rw [List.all_eq_false]
    exact ⟨_, List.mem_map_of_mem hx, by rw [decide_eq_true c]; decide⟩
open Classical in
theorem bad_rm {K : PySem.W.Frag} {H : Hp} {a : Addr} {xs : List V} (ha : H a = some (.lst xs)) (few : xs.length ≤ 900) (h : ∀ x ∈ xs, ∃ r, WdF K H x r) (b : ∃ x ∈ xs, WdF K H x false) : RmL K H (.ref a) false := fun H' s => by
  have e : (xs.map fun x => !decide (WdF K H x false)).all id = false := by
    obtain ⟨x, hx, c⟩ := b
    rw [List.all_eq_false]
    exact ⟨_, List.mem_map_of_mem hx, by rw [decide_eq_true c]; decide⟩
  refine .no ?_
  rw [← e]
  refine BookF.lst (s _ _ ha) few ⟨by rw [List.length_map], fun i x r p q => ?_⟩
  rw [List.getElem?_map, p] at q
  have mem := List.mem_of_getElem? p
  obtain rfl : (!decide (WdF K H x false)) = r := Option.some.inj q
  by_cases c : WdF K H x false
  · rw [decide_eq_true c]
    exact c.same s
  · rw [decide_eq_false c]
    obtain ⟨r, hr⟩ := h x mem
    cases r
    · exact absurd hr c
    · exact hr.same s
theorem dup_ms {K : PySem.W.Frag} {H : Hp} {a : Addr} {vs : List V} {ms : List Mn} (ha : H a = some (.lst vs)) (h : Mans H vs ms) (o : ∀ m ∈ ms, m.Ok) (few : ms.length < 64) (nd : ¬ ms.Nodup) : MsL K H (.ref a) false := fun H' s => by
  have h' := h.same s
  have at_ : ∀ {i : Nat} {v : V}, vs[i]? = some v → ∃ m, ms[i]? = some m ∧ m ∈ ms := fun {i v} q => by
    have li := (List.getElem?_eq_some_iff.mp q).1
    rw [h.1] at li
    exact ⟨_, List.getElem?_eq_getElem li, List.getElem_mem li⟩
  have e : decide (ms.map kMn).Nodup = false := decide_eq_false fun z => nd ((List.pairwise_map.mp z).imp fun ne e => ne (by rw [e]))
  rw [← e]
  refine MannersF.good (s _ _ ha) (by rw [h.1]; exact few) (fun v hv => ?_) ⟨by rw [List.length_map]; exact h.1.symm, fun i y k p q => ?_⟩
  · obtain ⟨i, hi⟩ := List.getElem?_of_mem hv
    obtain ⟨m, em, mm⟩ := at_ hi
    exact man_good (h'.2 i v m hi em) (o m mm)
  · rw [List.getElem?_map] at q
    obtain ⟨m, em, _⟩ := at_ p
    rw [em] at q
    cases q
    exact nk_mn (h'.2 i y m p em)
theorem dup_rm {K : PySem.W.Frag} {H : Hp} {a : Addr} {ws : List Str} (ha : H a = some (.lst (ws.map V.str))) (o : ∀ x ∈ ws, Word x) (few : ws.length ≤ 900) (nd : ¬ ws.Nodup) : RmL K H (.ref a) false := fun H' s => by
  rw [← decide_eq_false nd]
  exact .yes (s _ _ ha) (fun x hx => ⟨by have := (o x hx).1.2; rw [sizeLine_eq]; omega, (o x hx).form⟩) few
theorem man_L {K : PySem.W.Frag} {H : Hp} {x : V} {t : T} (o : okT t = true) (h : Laid H x t) : ManL K H x (manT t) := fun H' s => man_T o (h.same s)
theorem alm_T {K : PySem.W.Frag} {H : Hp} {x : V} {t : T} (o : okT t = true) (h : Laid H x t) {n : Nat} (d : dpT t ≤ n) : Alm K H n x x := (alm_self h o).mono d
theorem alm_ef {K : PySem.W.Frag} {H : Hp} {t : Addr} {e : Ef} (h : EfAt H t e) : Alm K H 2 (.ref t) (.ref t) := by
  refine .tup h h rfl (by cases e <;> first | (show 2 ≤ 900; decide) | (show 3 ≤ 900; decide)) fun i x y a b => ?_
  rw [a] at b
  cases b
  refine .flat ?_
  cases e with
  | coins c =>
    have := List.mem_of_getElem? a
    simp only [Ef.vs, List.mem_cons, List.not_mem_nil, or_false] at this
    rcases this with rfl | rfl <;> rfl
  | fill c d =>
    have := List.mem_of_getElem? a
    simp only [Ef.vs, List.mem_cons, List.not_mem_nil, or_false] at this
    rcases this with rfl | rfl | rfl <;> rfl
theorem alm_mn {K : PySem.W.Frag} {H : Hp} {v : V} {m : Mn} (h : ManAt H v m) : Alm K H 3 v v := by
  obtain ⟨a, t, rfl, h1, h2⟩ := h
  refine .tup h1 h1 rfl (by show 4 ≤ 900; decide) fun i x y p q => ?_
  rw [p] at q
  cases q
  match i, p with
  | 0, p => cases p; exact .flat rfl
  | 1, p => cases p; exact .flat rfl
  | 2, p => cases p; exact .flat rfl
  | 3, p => cases p; exact alm_ef h2
  | n + 4, p => cases p
theorem alm_mns {K : PySem.W.Frag} {H : Hp} {vs : List V} {ms : List Mn} (h : Mans H vs ms) : ∀ x ∈ vs, Alm K H 5 x x := fun x hx => by
  obtain ⟨i, hi⟩ := List.getElem?_of_mem hx
  have li := (List.getElem?_eq_some_iff.mp hi).1
  rw [h.1] at li
  exact (alm_mn (h.2 i x _ hi (List.getElem?_eq_getElem li))).mono (by decide)
theorem mans_good {K : PySem.W.Frag} {H : Hp} {vs : List V} {ms : List Mn} (h : Mans H vs ms) (o : ∀ m ∈ ms, m.Ok) : ∀ x ∈ vs, ManL K H x true := fun x hx => by
  obtain ⟨i, hi⟩ := List.getElem?_of_mem hx
  have li := (List.getElem?_eq_some_iff.mp hi).1
  rw [h.1] at li
  exact man_good (h.2 i x _ hi (List.getElem?_eq_getElem li)) (o _ (List.getElem_mem li))
/-- a display of a manner, read as one -/
def mT (m : Mn) : T := .tup [.v (.str m.r), .v (.str m.j), .v (.str m.s), .tup (m.e.vs.map T.v)]
theorem man_laid {H : Hp} {x : V} {m : Mn} (h : Laid H x (mT m)) : ManAt H x m := by
  cases h with
  | tup h l =>
    match l with
    | .cons (.v _) (.cons (.v _) (.cons (.v _) (.cons l4 .nil))) =>
      cases l4 with
      | tup g l5 =>
        refine ⟨_, _, rfl, h, ?_⟩
        have leaf : ∀ {xs ys : List V}, Lds H xs (ys.map T.v) → xs = ys := fun {xs ys} l => by
          induction ys generalizing xs with
          | nil => cases l; rfl
          | cons y ys ih =>
            cases l with
            | cons a b =>
              cases a
              rw [ih b]
        rw [leaf l5] at g
        exact g
end L2.K03
set_option Elab.async false
set_option linter.all false
set_option maxRecDepth 100000
set_option maxHeartbeats 4000000
namespace L2.K03
open PySem PySem.Spec PyProof.Rows L2.EV L2
/-! ### what is no manual's is refused -/
abbrev sRf : Stmt := top 55
abbrev pRf : List Str := ["_law_purse_here", "_law_made", "_law_world_here"]
abbrev nRf : List Str := ["_law_purse_here", "_law_made", "_law_world_here", "_law_manners", "_law_begins", "_law_ends", "_law_at", "_law_bad", "_law_odd", "_law_one", "_law_other", "_law_some_here", "_law_way"]
theorem scRf : FnScope nRf pRf (defScope sRf) := ⟨rfl, rfl, rfl, by decide +kernel, rfl, by decide +kernel, by decide +kernel⟩
def spRf (K : PySem.W.Frag) : Sp := fun vs H Q _ => ∃ (p x a : Addr) (ms : List Mn) (bs es rs js : List Str) (n : Nat), vs = [.ref p, .ref x, .ref a] ∧ ManuAt K H x (srtM ms) (srtW bs) (srtW es) ∧ WdAt H a ms bs es rs js ∧ Wd ms bs es rs js ∧ PurseAt H p n ∧ n < 2 ^ 40 ∧
  ∀ H', Old p H H' → PurseAt H' p (n + 1) → Q (.bl true) H'
/-- a bad list of manners, and like itself -/
def BadM (K : PySem.W.Frag) (H : Hp) (v : V) : Prop := MsL K H v false ∧ Self K H v
theorem BadM.same {K : PySem.W.Frag} {H H' : Hp} {v : V} (h : BadM K H v) (s : Same H H') : BadM K H' v := ⟨fun H2 s2 => h.1 H2 (s.trans s2), h.2.same s⟩
def BadR (K : PySem.W.Frag) (H : Hp) (v : V) : Prop := RmL K H v false ∧ Self K H v
theorem BadR.same {K : PySem.W.Frag} {H H' : Hp} {v : V} (h : BadR K H v) (s : Same H H') : BadR K H' v := ⟨fun H2 s2 => h.1 H2 (s.trans s2), h.2.same s⟩
theorem ManuAt.old {K : PySem.W.Frag} {p : Addr} {H H' : Hp} {x : Addr} {ms : List Mn} {bs es : List Str} {n : Nat} (h : ManuAt K H x ms bs es) (hp : PurseAt H p n) (o : Old p H H') : ManuAt K H' x ms bs es := by
  obtain ⟨dx, q, r, t, fs, ys, h1, f1, f2, f3, f4, g1, g2, g3, g4⟩ := h
  refine ⟨dx, q, r, t, fs, ys, o _ _ (fun e => ?_) h1, f1, f2, f3, f4, o _ _ (not_purse hp g1 g2.no_int) g1, g2.old hp o, o _ _ (not_purse hp g3 (no_int_strs _)) g3, o _ _ (not_purse hp g4 (no_int_strs _)) g4⟩
  obtain ⟨c, z, u, i, e2, _⟩ := hp
  rw [e, e2] at h1
  cases h1
def mOne : Mn := ⟨"a", "b", "c", .coins 1⟩
def mOth : Mn := ⟨"x", "y", "z", .fill 0 0⟩
theorem one_ok : mOne.Ok := ⟨⟨⟨by decide +kernel, by decide +kernel⟩, by decide +kernel⟩, ⟨⟨by decide +kernel, by decide +kernel⟩, by decide +kernel⟩, ⟨⟨by decide +kernel, by decide +kernel⟩, by decide +kernel⟩, (by show 1 ≤ 3; decide)⟩
theorem oth_ok : mOth.Ok := ⟨⟨⟨by decide +kernel, by decide +kernel⟩, by decide +kernel⟩, ⟨⟨by decide +kernel, by decide +kernel⟩, by decide +kernel⟩, ⟨⟨by decide +kernel, by decide +kernel⟩, by decide +kernel⟩, (by show 0 ≤ 3 ∧ 0 ≤ 3; decide)⟩
theorem all2 {L : List Mn} (h : (L.all fun m => decide (m = mOne) || decide (m = mOth)) = true) : ∀ m ∈ L, m.Ok := fun m hm => by
  have := List.all_eq_true.mp h m hm
  rcases Bool.or_eq_true_iff.mp this with z | z
  · rw [of_decide_eq_true z]
    exact one_ok
  · rw [of_decide_eq_true z]
    exact oth_ok
theorem man_Lf {K : PySem.W.Frag} {H : Hp} {x : V} {t : T} (o : okT t = true) (e : manT t = false) (h : Laid H x t) : ManL K H x false := by
  rw [← e]
  exact man_L o h
theorem Mans.hid {H : Hp} {D : Addr} {us vs : List V} {ms : List Mn} (h : Mans H vs ms) (hD : H D = some (.lst us)) : Mans (L2.EV.hid H D) vs ms := ⟨h.1, fun i v m a b => by
  obtain ⟨q, t, e, h1, h2⟩ := h.2 i v m a b
  refine ⟨q, t, e, hid_of (fun z => ?_) h1, hid_of (fun z => ?_) h2⟩
  · rw [z, hD] at h1
    cases h1
  · unfold EfAt at h2
    rw [z, hD] at h2
    cases h2⟩
abbrev tBadTE (K : PySem.W.Frag) : TE := tOp rCat (tOp rCat (tSl (rSlL K) (tVar 3) tNoPart (tPart (tVar 6))) (tLst (tCons (tVar 8) tNil))) (tSl (rSlL K) (tVar 3) (tPart (tVar 6)) tNoPart)
section
variable {P : Program} {w : World} {K : PySem.W.Frag} {mg : Str → Option Value} {base : Heap} {f : Addr} {fd : FuncData}
theorem read_if {σ : St} {H : Hp} {Qc : VK} {lm : Addr} {ws : List V} {ms : List Mn} (hσ : σ[3]? = some (some (.ref lm))) (h2 : H lm = some (.lst ws)) (hM : Mans H ws ms) (om : ∀ m ∈ ms, m.Ok) (lms : ms.length ≤ 20) (q : ∀ v H', Same H H' → BadM K H' v → Qc v H') :
    tIf (tTest (tOp (rNeD K) (tVar 3) (tLst tNil))) (tOp rCat (tVar 3) (tSl (rSlL K) (tVar 3) tNoPart (tPart (tC (.int 1))))) (tLst (tCons (tC (.int 1)) tNil)) σ H Qc := by
  refine ⟨_, hσ, (by show 0 ≤ sizeLine; decide), fun q3 hq3 => ?_⟩
  obtain ⟨H1, e1, s1, g1⟩ : ∃ H1, H1 = upd H q3 (.lst []) ∧ Same H H1 ∧ H1 q3 = some (.lst []) := ⟨_, rfl, same_upd hq3, upd_same⟩
  rw [← e1]
  clear e1
  refine ⟨dMs ms, dMs [], .lst (SqL.of (s1 _ _ h2)) (hM.same s1).dp, .lst (SqL.of g1) .nil, shaped_mns om, shaped_mns (fun _ z => (List.not_mem_nil z).elim), _, rfl, ?_⟩
  rw [eqv_dMs]
  cases ms with
  | nil =>
    rw [decide_eq_true rfl]
    refine iteF ?_
    refine ⟨(by show 1 ≤ sizeLine; decide), fun q4 hq4 => ?_⟩
    obtain ⟨H2, e2, s2, g2⟩ : ∃ H2, H2 = upd H1 q4 (.lst [.int 1]) ∧ Same H1 H2 ∧ H2 q4 = some (.lst [.int 1]) := ⟨_, rfl, same_upd hq4, upd_same⟩
    rw [← e2]
    clear e2
    refine q _ H2 (s1.trans s2) ⟨bad_ms g2 (by decide) (fun z hz => ?_) ⟨.int 1, by simp, man_L (t := .v (.int 1)) (by decide) (.v _)⟩, self_lst hq4 s2 g2 (by decide) fun z hz => ?_⟩
    · rw [List.mem_singleton.mp hz]
      exact ⟨_, man_L (t := .v (.int 1)) (by decide) (.v _)⟩
    · rw [List.mem_singleton.mp hz]
      exact .flat rfl
  | cons m ns =>
    have wl : ws.length = ns.length + 1 := hM.1
    have lns : ns.length + 1 ≤ 20 := lms
    rw [decide_eq_false (by simp)]
    refine iteT ?_
    refine ⟨_, hσ, _, hσ, 1, rfl, lm, ws, rfl, SqL.of (s1 _ _ h2), fun q4 hq4 => ?_⟩
    obtain ⟨H2, e2, s2, g2⟩ : ∃ H2, H2 = upd H1 q4 (.lst (ws.take 1)) ∧ Same H1 H2 ∧ H2 q4 = some (.lst (ws.take 1)) := ⟨_, rfl, same_upd hq4, upd_same⟩
    rw [show cutV ws none (some 1) = ws.take 1 from cut_tk 1, ← e2]
    clear e2
    refine ⟨lm, q4, _, _, rfl, rfl, (s1.trans s2) _ _ h2, g2, (by rw [List.length_take, sizeLine_eq]; omega), fun q5 hq5 => ?_⟩
    obtain ⟨H3, e3, s3, g3⟩ : ∃ H3, H3 = upd H2 q5 (.lst (ws ++ ws.take 1)) ∧ Same H2 H3 ∧ H3 q5 = some (.lst (ws ++ ws.take 1)) := ⟨_, rfl, same_upd hq5, upd_same⟩
    rw [← e3]
    clear e3
    have hM3 := (hM.same (s1.trans (s2.trans s3)))
    have hM2 := (hM.same (s1.trans s2))
    have tk := hM3.app (hM3.take 1)
    refine q _ H3 (s1.trans (s2.trans s3)) ⟨dup_ms g3 tk (fun y hy => ?_) (by rw [List.length_append, List.length_take]; show ns.length + 1 + _ < 64; omega) (fun nd => ?_), self_lst hq5 s3 g3 (by rw [List.length_append, List.length_take]; omega) fun z hz => ?_⟩
    · rcases List.mem_append.mp hy with hy | hy
      · exact om y hy
      · exact om y (take_mem hy)
    · rw [List.nodup_append] at nd
      exact nd.2.2 m (by simp) m (by simp) rfl
    · rcases List.mem_append.mp hz with hz | hz
      · exact alm_mns hM2 z hz
      · exact alm_mns hM2 z (take_mem hz)
theorem ok_rfr (F : FnP K "_law_refused_right" sRf f fd) (M : My K) (N : MyT K) (Z : Far K) (GD : Got P w K mg base 2 "_law_draw" ["_law_purse_here", "_law_many"] spDraw) (GV : Got P w K mg base 9 "_law_very" pVy (spVy K)) (GT : Got P w K mg base 7 "_law_told" pTd (spTd K))
    (mL : mg "len" = none) (mTu : mg "tuple" = none) : FnOk P w K mg base CX0 10 f fd pRf (spRf K) := by
  refine F.ok scRf (fun vs H Q E h => ?_) (fun cdv A outer s H vs Q E hr h => ?_)
  · obtain ⟨p, x, a, ms, bs, es, rs, js, n, rfl, _⟩ := h
    rfl
  · obtain ⟨p, x, a, ms, bs, es, rs, js, n, rfl, hm, hw, W, hp, hn, q⟩ := h
    have hu := hr.units
    refine ⟨_, PSs.nox (pss_cons (ps_asg (pe_tup (pa_cons (pe_ix ix_list (pv 2) pe_int (fun _ _ => rfl)) (pa_cons (pe_ix ix_list (pv 2) pe_int (fun _ _ => rfl)) (pa_cons (pe_ix ix_list (pv 2) pe_int (fun _ _ => rfl)) pa_nil)))) (pg_tup rfl (pgs_cons (pg_name (i := 3) scRf.nd rfl (by first | exact Or.inl rfl | exact Or.inr rfl)) (pgs_cons (pg_name (i := 4) scRf.nd rfl (by first | exact Or.inl rfl | exact Or.inr rfl)) (pgs_cons (pg_name (i := 5) scRf.nd rfl (by first | exact Or.inl rfl | exact Or.inr rfl)) pgs_nil)))))
      (pss_cons (ps_set (i := 6) scRf.nd rfl (by first | exact Or.inl rfl | exact Or.inr rfl) (pe_got GD hr (pa_cons (pv 0) (pa_cons (pe_op op_add (pe_callB call_len_seq (by rfl) mL PySem.boot_len (pa_cons (pv 3) pa_nil)) pe_int) pa_nil))))
      (pss_cons (ps_setLc (i := 7) (own := [("_law_odd", 8)]) (g := gName 8) (tt := tYes) (te := tOp rCat (tOp rCat (tSl (rSlL K) (tVar 3) tNoPart (tPart (tVar 6))) (tLst (tCons (tVar 8) tNil))) (tSl (rSlL K) (tVar 3) (tPart (tVar 6)) tNoPart)) (by rfl) scRf.nd rfl rfl (by rfl) (pi_tup (pe_tup (pa_cons pe_non (pa_cons (pl_tup (pla_cons pl_str (pla_cons pl_str (pla_cons pl_str (pla_cons (pl_tup (pla_cons pl_str (pla_cons pl_int pla_nil))) pla_nil))))) (pa_cons (pl_lst (pla_cons pl_str (pla_cons pl_str (pla_cons pl_str (pla_cons (pl_tup (pla_cons pl_str (pla_cons pl_int pla_nil))) pla_nil))))) (pa_cons (pl_tup (pla_cons pl_str (pla_cons pl_str (pla_cons pl_str pla_nil)))) pa_nil))))))
          (blkOk_by (own := [("_law_odd", 8)]) (N := nRf) (sc := defScope sRf) (by decide +kernel)) (fun _ _ _ _ _ => pg_name (i := 8) scRf.nd rfl (Or.inl rfl)) (fun _ _ _ _ _ => pts_nil) (fun _ _ _ _ _ => pe_op op_cat (pe_op op_cat (pe_slice sl_list (pv 3) po_none (po_some (pv 6))) (pe_lst (pa_cons (pv 8) pa_nil))) (pe_slice sl_list (pv 3) (po_some (pv 6)) po_none)))
      (pss_cons (ps_set (i := 7) scRf.nd rfl (by first | exact Or.inl rfl | exact Or.inr rfl) (pe_op op_cat (pv 7) (pe_lst (pa_cons (pe_callTy call_tuple_of (by rfl) mTu (by decide +kernel) (pa_cons (pv 3) pa_nil)) (pa_cons pe_non (pa_cons pe_dnewK (pa_cons pe_str (pa_cons pe_int (pa_cons (pe_ifExp (pt_cmpR (op_neD hu) (pv 3) (pe_lst pa_nil) (nomark _)) (pe_op op_cat (pv 3) (pe_slice sl_list (pv 3) po_none (po_some pe_int))) (pe_lst (pa_cons pe_int pa_nil))) (pa_cons (pv 1) pa_nil))))))))))
      (pss_cons (ps_asg (pe_tup (pa_cons (pl_tup (pla_cons pl_str (pla_cons pl_str (pla_cons pl_str (pla_cons (pl_tup (pla_cons pl_str (pla_cons pl_int pla_nil))) pla_nil))))) (pa_cons (pl_tup (pla_cons pl_str (pla_cons pl_str (pla_cons pl_str (pla_cons (pl_tup (pla_cons pl_str (pla_cons pl_int (pla_cons pl_int pla_nil)))) pla_nil))))) pa_nil))) (pg_tup rfl (pgs_cons (pg_name (i := 9) scRf.nd rfl (by first | exact Or.inl rfl | exact Or.inr rfl)) (pgs_cons (pg_name (i := 10) scRf.nd rfl (by first | exact Or.inl rfl | exact Or.inr rfl)) pgs_nil))))
      (pss_cons (ps_set (i := 7) scRf.nd rfl (by first | exact Or.inl rfl | exact Or.inr rfl) (pe_op op_cat (pv 7) (pe_lst (pa_cons (pe_lst (pa_cons (pv 9) (pa_cons (pv 9) (pa_cons (pv 10) pa_nil)))) (pa_cons (pe_lst (pa_cons pe_non (pa_cons (pv 9) pa_nil))) (pa_cons (pe_lst (pa_cons (pv 9) (pa_cons (pl_tup (pla_cons pl_str (pla_cons pl_str (pla_cons pl_str (pla_cons (pl_tup (pla_cons pl_str (pla_cons pl_int pla_nil))) pla_nil))))) (pa_cons (pv 10) pa_nil)))) (pa_cons (pe_lst (pa_cons (pv 10) (pa_cons (pv 9) (pa_cons (pv 9) pa_nil)))) (pa_cons (pe_lst (pa_cons (pe_lst (pa_cons (pv 9) (pa_cons (pv 10) pa_nil))) pa_nil)) pa_nil))))))))
      (pss_cons (ps_for PassesOwn.never rfl (pi_list (pe_op op_cat (pv 7) (pe_lst (pa_cons (pe_lst (pa_cons (pl_tup (pla_cons pl_str (pla_cons pl_str (pla_cons pl_str (pla_cons (pl_tup (pla_cons pl_str (pla_cons pl_bl pla_nil))) pla_nil))))) pa_nil)) (pa_cons (pe_lst (pa_cons (pl_tup (pla_cons pl_str (pla_cons pl_str (pla_cons pl_str (pla_cons (pl_tup (pla_cons pl_str (pla_cons pl_int pla_nil))) pla_nil))))) (pa_cons (pl_tup (pla_cons pl_str (pla_cons pl_str (pla_cons pl_str (pla_cons (pl_tup (pla_cons pl_str (pla_cons pl_int (pla_cons pl_int pla_nil)))) pla_nil))))) (pa_cons (pl_tup (pla_cons pl_str (pla_cons pl_str (pla_cons pl_str (pla_cons (pl_tup (pla_cons pl_str (pla_cons pl_int pla_nil))) pla_nil))))) pa_nil)))) pa_nil))))) (pg_name (i := 11) scRf.nd rfl (by first | exact Or.inl rfl | exact Or.inr rfl)) (pss_one (ps_if (pt_not (pt_val (pe_got GV hr (pa_cons (pe_got GT hr (pa_cons pe_str (pa_cons (pe_lst (pa_cons (pv 11) (pa_cons pe_non (pa_cons pe_non pa_nil)))) pa_nil))) (pa_cons pe_str (pa_cons (pv 11) pa_nil)))))) (pss_one (ps_ret pe_bl)) pss_nil)))
      (pss_cons (ps_for PassesOwn.never rfl (pi_tup (pe_tup (pa_cons (pe_callTy call_tuple_of (by rfl) mTu (by decide +kernel) (pa_cons (pv 4) pa_nil)) (pa_cons pe_non (pa_cons pe_str (pa_cons (pl_d1 pl_int) (pa_cons (pe_lst (pa_cons pe_str (pa_cons pe_str (pa_cons pe_str pa_nil)))) (pa_cons (pe_lst (pa_cons pe_str (pa_cons pe_str (pa_cons pe_str pa_nil)))) (pa_cons (pe_lst (pa_cons pe_str (pa_cons pe_str pa_nil))) (pa_cons (pe_lst (pa_cons pe_str (pa_cons pe_int (pa_cons pe_str pa_nil)))) (pa_cons (pe_lst (pa_cons pe_str pa_nil)) (pa_cons (pe_lst (pa_cons pe_int pa_nil)) (pa_cons (pe_lst (pa_cons pe_bl pa_nil)) (pa_cons (pv 1) (pa_cons (pe_op op_cat (pv 4) (pe_lst (pa_cons pe_str pa_nil))) (pa_cons (pe_op op_cat (pv 4) (pe_lst (pa_cons (pe_lst (pa_cons pe_str pa_nil)) pa_nil))) pa_nil)))))))))))))))) (pg_name (i := 11) scRf.nd rfl (by first | exact Or.inl rfl | exact Or.inr rfl)) (pss_cons (ps_if (pt_not (pt_val (pe_got GV hr (pa_cons (pe_got GT hr (pa_cons pe_str (pa_cons (pe_lst (pa_cons (pv 3) (pa_cons (pv 11) (pa_cons pe_non pa_nil)))) pa_nil))) (pa_cons pe_str (pa_cons (pv 11) pa_nil)))))) (pss_one (ps_ret pe_bl)) pss_nil) (pss_one (ps_if (pt_not (pt_val (pe_got GV hr (pa_cons (pe_got GT hr (pa_cons pe_str (pa_cons (pe_lst (pa_cons (pv 3) (pa_cons (pv 4) (pa_cons (pv 11) pa_nil)))) pa_nil))) (pa_cons pe_str (pa_cons (pv 11) pa_nil)))))) (pss_one (ps_ret pe_bl)) pss_nil))))
      (pss_cons (ps_for PassesOwn.never rfl (pi_tup (pe_tup (pa_cons pe_non (pa_cons pe_int (pa_cons pe_bl (pa_cons pe_str (pa_cons (pe_lst pa_nil) (pa_cons pe_dnewK (pa_cons (pv 3) (pa_cons (pe_tup (pa_cons (pv 3) (pa_cons (pv 4) (pa_cons (pv 5) pa_nil)))) (pa_cons (pe_lst (pa_cons (pv 1) pa_nil)) (pa_cons (pe_tup (pa_cons (pv 1) pa_nil)) pa_nil)))))))))))) (pg_name (i := 8) scRf.nd rfl (by first | exact Or.inl rfl | exact Or.inr rfl)) (pss_one (ps_for PassesOwn.never rfl (pi_tup (pe_tup (pa_cons pe_str (pa_cons pe_str (pa_cons pe_str pa_nil))))) (pg_name (i := 12) scRf.nd rfl (by first | exact Or.inl rfl | exact Or.inr rfl)) (pss_one (ps_if (pt_not (pt_val (pe_got GV hr (pa_cons (pe_got GT hr (pa_cons (pv 12) (pa_cons (pe_lst (pa_cons (pv 8) (pa_cons pe_non (pa_cons pe_non pa_nil)))) pa_nil))) (pa_cons pe_str (pa_cons (pv 8) pa_nil)))))) (pss_one (ps_ret pe_bl)) pss_nil)))))
      (pss_one (ps_ret pe_bl))))))))))), ?_⟩
    obtain ⟨lm, lb, le, lr, lj, ws, h1, h2, h3, h4, h5, h6, h7⟩ := id hw
    have na : a ≠ p := not_purse hp h1 fun i z => by simp at z
    have nm : lm ≠ p := not_purse hp h2 h3.no_int
    have nb : lb ≠ p := not_purse hp h4 (no_int_strs _)
    have ne : le ≠ p := not_purse hp h5 (no_int_strs _)
    have lms : ms.length ≤ 20 := W.ml
    have wlen : ws.length = ms.length := h3.1
    have lbs : bs.length ≤ 8 := Nat.le_trans (nodup_le _ _ W.bn W.bo) W.base.r.2
    have les : es.length ≤ 8 := Nat.le_trans (nodup_le _ _ W.en W.eo) W.base.r.2
    have om : MOk ms bs es := ⟨fun m hm => (W.mo m hm).ok W.base, fun x hx => W.base.rw x (W.bo x hx), fun x hx => W.base.rw x (W.eo x hx)⟩
    have oms : MOk (srtM ms) (srtW bs) (srtW es) := om.srt
    refine ⟨_, rfl, a, _, _, .ref lm, rfl, rfl, SqL.of h1, atI_nat (j := 0) rfl, _, rfl, a, _, _, .ref lb, rfl, rfl, SqL.of h1, atI_nat (j := 1) rfl, _, rfl, a, _, _, .ref le, rfl, rfl, SqL.of h1, atI_nat (j := 2) rfl, (by show 3 ≤ sizeLine; decide), fun t0 ht0 => ?_⟩
    obtain ⟨H0, e0, s0, g0⟩ : ∃ H0, H0 = upd H t0 (.tup [.ref lm, .ref lb, .ref le]) ∧ Same H H0 ∧ H0 t0 = some (.tup [.ref lm, .ref lb, .ref le]) := ⟨_, rfl, same_upd ht0, upd_same⟩
    rw [← e0]
    clear e0
    refine ⟨t0, _, rfl, SqT.of g0, rfl, _, _, rfl, _, _, rfl, _, _, rfl, rfl, ?_⟩
    refine ⟨_, rfl, _, rfl, lm, ws, rfl, .inl (SqL.of (s0 _ _ h2)), _, _, rfl, rfl, p, _, n, rfl, ⟨by omega, by omega⟩, hp.same s0, by omega, fun c HP c0 c1 pP bP => ?_⟩
    obtain ⟨k, rfl⟩ := Int.eq_ofNat_of_zero_le c0
    have lk : k ≤ ws.length := by omega
    have oP : Old p H HP := (Old.of_same s0).trans (.of_but bP)
    have h1P := oP _ _ na h1
    have h2P := oP _ _ nm h2
    have h3P : Mans HP ws ms := h3.old hp oP
    have h4P := oP _ _ nb h4
    have h5P := oP _ _ ne h5
    have hmP := hm.old hp oP
    have cP : Same HP HP := fun _ _ e => e
    refine ⟨_, val_self rfl, fun vA HA sA lA => ?_⟩
    replace lA := lA.same nw_old
    have cA := cP.trans sA
    refine ⟨_, val_self rfl, fun vB HB sB lB => ?_⟩
    replace lB := lB.same nw_old
    have cB := cA.trans sB
    refine ⟨_, val_self rfl, fun vC HC sC lC => ?_⟩
    replace lC := lC.same nw_old
    have cC := cB.trans sC
    refine ⟨(by show 4 ≤ sizeLine; decide), fun t1 ht1 => ?_⟩
    obtain ⟨HT, eT, sT, gT⟩ : ∃ HT, HT = upd HC t1 (.tup [.non, vA, vB, vC]) ∧ Same HC HT ∧ HT t1 = some (.tup [.non, vA, vB, vC]) := ⟨_, rfl, same_upd ht1, upd_same⟩
    rw [← eT]
    clear eT
    have cT := cC.trans sT
    have badv : ∀ v ∈ [V.non, vA, vB, vC], ManL K HT v false ∧ Alm K HT 5 v v := by
      intro v hv
      simp only [List.mem_cons, List.not_mem_nil, or_false] at hv
      rcases hv with rfl | rfl | rfl | rfl
      · exact ⟨man_L (t := .v .non) (by decide) (.v _), .flat rfl⟩
      · exact ⟨man_L (by decide +kernel) (lA.same (sB.trans (sC.trans sT))), alm_T (by decide +kernel) (lA.same (sB.trans (sC.trans sT))) (by decide)⟩
      · exact ⟨man_L (by decide +kernel) (lB.same (sC.trans sT)), alm_T (by decide +kernel) (lB.same (sC.trans sT)) (by decide)⟩
      · exact ⟨man_L (by decide +kernel) (lC.same sT), alm_T (by decide +kernel) (lC.same sT) (by decide)⟩
    refine ⟨t1, rfl, ⟨_, SqT.of gT⟩, fun D hD => ?_⟩
    refine lc_tup (K := K) (a := t1) (xs := [V.non, vA, vB, vC]) (fun i H' => ∃ zs, Same HT H' ∧ H' D = some (.lst zs) ∧ (∀ z ∈ zs, BadM K (hid H' D) z) ∧ zs.length ≤ i) ⟨[], same_upd hD, upd_same, fun z hz => (List.not_mem_nil hz).elim, Nat.le_refl _⟩ (fun i H' _ ⟨_, sC1, _⟩ => SqT.of (sC1 _ _ gT)) ?_ ?_
    · rintro i v H1 hv ⟨zs, sZ, gD, hz, lz⟩
      have li : i < 4 := (List.getElem?_eq_some_iff.mp hv).1
      obtain ⟨bv, av⟩ := badv v (List.mem_of_getElem? hv)
      refine ⟨rfl, ?_⟩
      dsimp only [tYes]
      rw [if_pos rfl]
      have z2 := sZ _ _ (cT _ _ h2P)
      refine ⟨_, rfl, _, rfl, _, rfl, lm, ws, rfl, SqL.of z2, fun q1 hq1 => ?_⟩
      obtain ⟨H2, e1, s1, g1⟩ : ∃ H2, H2 = upd H1 q1 (.lst (ws.take k)) ∧ Same H1 H2 ∧ H2 q1 = some (.lst (ws.take k)) := ⟨_, rfl, same_upd hq1, upd_same⟩
      rw [cut_tk k, ← e1]
      clear e1
      refine ⟨_, rfl, (by show 1 ≤ sizeLine; decide), fun q2 hq2 => ?_⟩
      obtain ⟨H3, e2, s2, g2⟩ : ∃ H3, H3 = upd H2 q2 (.lst [v]) ∧ Same H2 H3 ∧ H3 q2 = some (.lst [v]) := ⟨_, rfl, same_upd hq2, upd_same⟩
      rw [← e2]
      clear e2
      refine ⟨q1, q2, _, _, rfl, rfl, s2 _ _ g1, g2, (by rw [List.length_take, sizeLine_eq]; show _ + 1 ≤ _; omega), fun q3 hq3 => ?_⟩
      obtain ⟨H4, e3, s3, g3⟩ : ∃ H4, H4 = upd H3 q3 (.lst (ws.take k ++ [v])) ∧ Same H3 H4 ∧ H4 q3 = some (.lst (ws.take k ++ [v])) := ⟨_, rfl, same_upd hq3, upd_same⟩
      rw [← e3]
      clear e3
      refine ⟨_, rfl, _, rfl, _, rfl, lm, ws, rfl, SqL.of (s3 _ _ (s2 _ _ (s1 _ _ z2))), fun q4 hq4 => ?_⟩
      obtain ⟨H5, e4, s4, g4⟩ : ∃ H5, H5 = upd H4 q4 (.lst (ws.drop k)) ∧ Same H4 H5 ∧ H5 q4 = some (.lst (ws.drop k)) := ⟨_, rfl, same_upd hq4, upd_same⟩
      rw [cut_dp k lk, ← e4]
      clear e4
      refine ⟨q3, q4, _, _, rfl, rfl, s4 _ _ g3, g4, (by rw [List.length_append, List.length_take, List.length_drop, sizeLine_eq]; show _ + 1 + _ ≤ _; omega), fun q5 hq5 => ?_⟩
      obtain ⟨H6, e5, s5, g5⟩ : ∃ H6, H6 = upd H5 q5 (.lst (ws.take k ++ [v] ++ ws.drop k)) ∧ Same H5 H6 ∧ H6 q5 = some (.lst (ws.take k ++ [v] ++ ws.drop k)) := ⟨_, rfl, same_upd hq5, upd_same⟩
      rw [← e5]
      clear e5
      have s15 := s1.trans (s2.trans (s3.trans s4))
      have s16 := s15.trans s5
      have n5 : q5 ≠ D := ne_of_new hq5 (s15 _ _ gD)
      have b5 : Same HT (hid H5 D) := hid_base hD (sZ.trans s15)
      have b6 : Same HT (hid H6 D) := hid_base hD (sZ.trans s16)
      have h5n : hid H5 D q5 = none := by
        unfold L2.EV.hid
        split
        · rfl
        · exact hq5
      refine ⟨zs, s16 _ _ gD, small1000 (by omega), zs ++ [.ref q5], fun c o e => ?_, upd_same, fun y hy => ?_, by rw [List.length_append]; exact Nat.succ_le_succ lz⟩
      · rw [upd_ne (ne_of_none e hD)]
        exact s16 _ _ (sZ _ _ e)
      · rw [hid_upd]
        rcases List.mem_append.mp hy with hy | hy
        · exact (hz y hy).same (hid_mono s16)
        · rw [List.mem_singleton.mp hy]
          have hM := h3P.same cT
          have gq : hid H6 D q5 = some (.lst (ws.take k ++ [v] ++ ws.drop k)) := hid_of n5 g5
          have memw : ∀ z ∈ ws.take k ++ [v] ++ ws.drop k, z = v ∨ z ∈ ws := fun z hz => by
            rcases List.mem_append.mp hz with hz | hz
            · rcases List.mem_append.mp hz with hz | hz
              · exact .inr (take_mem hz)
              · exact .inl (List.mem_singleton.mp hz)
            · exact .inr (drop_mem hz)
          have ll : (ws.take k ++ [v] ++ ws.drop k).length ≤ 21 := by
            rw [List.length_append, List.length_append, List.length_take, List.length_drop]
            show _ + 1 + _ ≤ _
            omega
          refine ⟨bad_ms gq (by omega) (fun z hz => ?_) ⟨v, by simp, bv.same b6⟩, self_lst h5n (hid_mono s5) gq (by omega) fun z hz => ?_⟩
          · rcases memw z hz with rfl | hz
            · exact ⟨_, bv.same b6⟩
            · exact ⟨_, (mans_good hM om.m z hz).same b6⟩
          · rcases memw z hz with rfl | hz
            · exact av.same b5
            · exact (alm_mns hM z hz).same b5
    · rintro H1 ⟨zs, sZ, gD, hz, lz⟩
      replace lz : zs.length ≤ 4 := lz
      have c1 : Same HP H1 := cT.trans sZ
      refine ⟨_, rfl, _, rfl, lm, ws, rfl, .inl ⟨SqL.of (c1 _ _ h2P), fun q1 hq1 => ?_⟩⟩
      obtain ⟨H2, e2, s2, g2⟩ : ∃ H2, H2 = upd H1 q1 (.tup ws) ∧ Same H1 H2 ∧ H2 q1 = some (.tup ws) := ⟨_, rfl, same_upd hq1, upd_same⟩
      rw [← e2]
      clear e2
      have c2 := c1.trans s2
      refine fun q2 hq2 => ?_
      obtain ⟨H3, e3, s3, g3⟩ : ∃ H3, H3 = upd H2 q2 (.dK []) ∧ Same H2 H3 ∧ H3 q2 = some (.dK []) := ⟨_, rfl, same_upd hq2, upd_same⟩
      rw [← e3]
      clear e3
      have c3 := c2.trans s3
      show tIf (tTest (tOp (rNeD K) (tVar 3) (tLst tNil))) (tOp rCat (tVar 3) (tSl (rSlL K) (tVar 3) tNoPart (tPart (tC (.int 1))))) (tLst (tCons (tC (.int 1)) tNil)) _ H3 _
      refine read_if (lm := lm) (ws := ws) (ms := ms) rfl (c3 _ _ h2P) (h3P.same c3) om.m lms fun v6 H4 s4 b6 => ?_
      have c4 := c3.trans s4
      refine ⟨_, rfl, (by show 7 ≤ sizeLine; decide), fun q4 hq4 => ?_⟩
      obtain ⟨H5, e5, s5, g5⟩ : ∃ H5, H5 = upd H4 q4 (.lst [.ref q1, .non, .ref q2, .str "manners", .int 3, v6, .ref x]) ∧ Same H4 H5 ∧ H5 q4 = some (.lst [.ref q1, .non, .ref q2, .str "manners", .int 3, v6, .ref x]) := ⟨_, rfl, same_upd hq4, upd_same⟩
      rw [← e5]
      clear e5
      have c5 := c4.trans s5
      refine ⟨D, q4, zs, _, rfl, rfl, (s2.trans (s3.trans (s4.trans s5))) _ _ gD, g5, (by rw [sizeLine_eq]; show zs.length + 7 ≤ _; omega), fun q5 hq5 => ?_⟩
      obtain ⟨H6, e6, s6, g6⟩ : ∃ H6, H6 = upd H5 q5 (.lst (zs ++ [.ref q1, .non, .ref q2, .str "manners", .int 3, v6, .ref x])) ∧ Same H5 H6 ∧ H6 q5 = some (.lst (zs ++ [.ref q1, .non, .ref q2, .str "manners", .int 3, v6, .ref x])) := ⟨_, rfl, same_upd hq5, upd_same⟩
      rw [← e6]
      clear e6
      have c6 := c5.trans s6
      have L1 : ∀ z ∈ zs ++ [.ref q1, .non, .ref q2, .str "manners", .int 3, v6, .ref x], BadM K H6 z := by
        intro z hz'
        rcases List.mem_append.mp hz' with hy | hy
        · exact ((hz z hy).same hid_old).same (s2.trans (s3.trans (s4.trans (s5.trans s6))))
        · simp only [List.mem_cons, List.not_mem_nil, or_false] at hy
          rcases hy with rfl | rfl | rfl | rfl | rfl | rfl | rfl
          · have g := (s3.trans (s4.trans (s5.trans s6))) _ _ g2
            exact ⟨(noL_tup g).ms, self_tup g (by omega) (alm_mns (h3P.same c6))⟩
          · exact ⟨(noL_T (t := .v .non) (.v _) rfl (by decide)).ms, self_T (t := .v .non) (by decide) (.v _) rfl (by decide) (by decide)⟩
          · have l : Laid H6 (.ref q2) (.dct [] []) := Laid.dct (kvs := []) ((s4.trans (s5.trans s6)) _ _ g3) .nil
            exact ⟨(noL_T l rfl (by decide)).ms, self_T (by decide +kernel) l rfl (by decide) (by decide)⟩
          · exact ⟨(noL_T (t := .v (.str "manners")) (.v _) rfl (by decide)).ms, self_T (t := .v (.str "manners")) (by decide +kernel) (.v _) rfl (by decide) (by decide)⟩
          · exact ⟨(noL_T (t := .v (.int 3)) (.v _) rfl (by decide)).ms, self_T (t := .v (.int 3)) (by decide) (.v _) rfl (by decide) (by decide)⟩
          · exact b6.same (s5.trans s6)
          · exact ⟨(noL_man M N (hmP.same c6)).ms, self_man M N (hmP.same c6) oms⟩
      have L1l : (zs ++ [.ref q1, .non, .ref q2, .str "manners", .int 3, v6, .ref x]).length ≤ 11 := by
        rw [List.length_append]
        show zs.length + 7 ≤ _
        omega
      generalize (zs ++ [.ref q1, .non, .ref q2, .str "manners", .int 3, v6, .ref x]) = us at g6 L1 L1l
      refine ⟨_, val_self rfl, fun x1 H7 s7 l7 => ?_⟩
      replace l7 := l7.same nw_old
      have c7 := c6.trans s7
      refine ⟨_, val_self rfl, fun x2 H8 s8 l8 => ?_⟩
      replace l8 := l8.same nw_old
      have c8 := c7.trans s8
      have m1 : ManAt H7 x1 mOne := man_laid (m := mOne) l7
      have m2 : ManAt H8 x2 mOth := man_laid (m := mOth) l8
      replace m1 := m1.same s8
      refine ⟨(by show 2 ≤ sizeLine; decide), fun t2 ht2 => ?_⟩
      obtain ⟨H9, e9, s9, g9⟩ : ∃ H9, H9 = upd H8 t2 (.tup [x1, x2]) ∧ Same H8 H9 ∧ H9 t2 = some (.tup [x1, x2]) := ⟨_, rfl, same_upd ht2, upd_same⟩
      rw [← e9]
      clear e9
      have c9 := c8.trans s9
      refine ⟨t2, _, rfl, SqT.of g9, rfl, _, _, rfl, _, _, rfl, rfl, ?_⟩
      refine ⟨_, rfl, _, rfl, _, rfl, _, rfl, (by show 3 ≤ sizeLine; decide), fun r1 hr1 => ?_⟩
      obtain ⟨Ha, ea, sa, ga⟩ : ∃ Ha, Ha = upd H9 r1 (.lst [x1, x1, x2]) ∧ Same H9 Ha ∧ Ha r1 = some (.lst [x1, x1, x2]) := ⟨_, rfl, same_upd hr1, upd_same⟩
      rw [← ea]
      clear ea
      have ca := c9.trans sa
      refine ⟨_, rfl, (by show 2 ≤ sizeLine; decide), fun r2 hr2 => ?_⟩
      obtain ⟨Hb, eb, sb, gb⟩ : ∃ Hb, Hb = upd Ha r2 (.lst [.non, x1]) ∧ Same Ha Hb ∧ Hb r2 = some (.lst [.non, x1]) := ⟨_, rfl, same_upd hr2, upd_same⟩
      rw [← eb]
      clear eb
      have cb := ca.trans sb
      refine ⟨_, rfl, ?_⟩
      refine ⟨_, val_self rfl, fun xa Hc sc lc => ?_⟩
      replace lc := lc.same nw_old
      have cc := cb.trans sc
      refine ⟨_, rfl, (by show 3 ≤ sizeLine; decide), fun r3 hr3 => ?_⟩
      obtain ⟨Hd, ed, sd, gd⟩ : ∃ Hd, Hd = upd Hc r3 (.lst [x1, xa, x2]) ∧ Same Hc Hd ∧ Hd r3 = some (.lst [x1, xa, x2]) := ⟨_, rfl, same_upd hr3, upd_same⟩
      rw [← ed]
      clear ed
      have cd := cc.trans sd
      refine ⟨_, rfl, _, rfl, _, rfl, (by show 3 ≤ sizeLine; decide), fun r4 hr4 => ?_⟩
      obtain ⟨He, ee, se, ge⟩ : ∃ He, He = upd Hd r4 (.lst [x2, x1, x1]) ∧ Same Hd He ∧ He r4 = some (.lst [x2, x1, x1]) := ⟨_, rfl, same_upd hr4, upd_same⟩
      rw [← ee]
      clear ee
      have ce := cd.trans se
      refine ⟨_, rfl, _, rfl, (by show 2 ≤ sizeLine; decide), fun r5 hr5 => ?_⟩
      obtain ⟨Hf, ef, sf, gf⟩ : ∃ Hf, Hf = upd He r5 (.lst [x1, x2]) ∧ Same He Hf ∧ Hf r5 = some (.lst [x1, x2]) := ⟨_, rfl, same_upd hr5, upd_same⟩
      rw [← ef]
      clear ef
      have cf := ce.trans sf
      refine ⟨(by show 1 ≤ sizeLine; decide), fun r6 hr6 => ?_⟩
      obtain ⟨Hg, eg, sg, gg⟩ : ∃ Hg, Hg = upd Hf r6 (.lst [.ref r5]) ∧ Same Hf Hg ∧ Hg r6 = some (.lst [.ref r5]) := ⟨_, rfl, same_upd hr6, upd_same⟩
      rw [← eg]
      clear eg
      have cg := cf.trans sg
      refine ⟨(by show 5 ≤ sizeLine; decide), fun r7 hr7 => ?_⟩
      obtain ⟨Hh, eh, sh, gh⟩ : ∃ Hh, Hh = upd Hg r7 (.lst [.ref r1, .ref r2, .ref r3, .ref r4, .ref r6]) ∧ Same Hg Hh ∧ Hh r7 = some (.lst [.ref r1, .ref r2, .ref r3, .ref r4, .ref r6]) := ⟨_, rfl, same_upd hr7, upd_same⟩
      rw [← eh]
      clear eh
      have ch := cg.trans sh
      refine ⟨q5, r7, us, _, rfl, rfl, (s7.trans (s8.trans (s9.trans (sa.trans (sb.trans (sc.trans (sd.trans (se.trans (sf.trans (sg.trans sh)))))))))) _ _ g6, gh, (by rw [sizeLine_eq]; show us.length + 5 ≤ _; omega), fun r8 hr8 => ?_⟩
      obtain ⟨Hi, ei, si, gi⟩ : ∃ Hi, Hi = upd Hh r8 (.lst (us ++ [.ref r1, .ref r2, .ref r3, .ref r4, .ref r6])) ∧ Same Hh Hi ∧ Hi r8 = some (.lst (us ++ [.ref r1, .ref r2, .ref r3, .ref r4, .ref r6])) := ⟨_, rfl, same_upd hr8, upd_same⟩
      rw [← ei]
      clear ei
      have ci := ch.trans si
      have al1 : ∀ {H'}, Same H8 H' → Alm K H' 5 x1 x1 := fun s => (alm_mn (m1.same s)).mono (by decide)
      have al2 : ∀ {H'}, Same H8 H' → Alm K H' 5 x2 x2 := fun s => (alm_mn (m2.same s)).mono (by decide)
      have L2 : ∀ z ∈ us ++ [.ref r1, .ref r2, .ref r3, .ref r4, .ref r6], BadM K Hi z := by
        intro z hz'
        rcases List.mem_append.mp hz' with hy | hy
        · exact (L1 z hy).same (s7.trans (s8.trans (s9.trans (sa.trans (sb.trans (sc.trans (sd.trans (se.trans (sf.trans (sg.trans (sh.trans si)))))))))))
        · simp only [List.mem_cons, List.not_mem_nil, or_false] at hy
          rcases hy with rfl | rfl | rfl | rfl | rfl
          · refine BadM.same (H := Ha) ⟨dup_ms ga ((Mans.one (m1.same (s9.trans sa))).app ((Mans.one (m1.same (s9.trans sa))).app (Mans.one (m2.same (s9.trans sa))))) (all2 (by decide +kernel)) (by decide) (by decide +kernel), self_lst hr1 sa ga (by show 3 ≤ 800; decide) fun z hz => ?_⟩ (sb.trans (sc.trans (sd.trans (se.trans (sf.trans (sg.trans (sh.trans si)))))))
            simp only [List.mem_cons, List.not_mem_nil, or_false] at hz
            rcases hz with rfl | rfl | rfl
            · exact al1 s9
            · exact al1 s9
            · exact al2 s9
          · refine BadM.same (H := Hb) ⟨bad_ms gb (by show 2 ≤ 900; decide) (fun z hz => ?_) ⟨.non, by simp, man_L (t := .v .non) (by decide) (.v _)⟩, self_lst hr2 sb gb (by show 2 ≤ 800; decide) fun z hz => ?_⟩ (sc.trans (sd.trans (se.trans (sf.trans (sg.trans (sh.trans si))))))
            · simp only [List.mem_cons, List.not_mem_nil, or_false] at hz
              rcases hz with rfl | rfl
              · exact ⟨_, man_L (t := .v .non) (by decide) (.v _)⟩
              · exact ⟨_, man_good (m1.same (s9.trans (sa.trans sb))) one_ok⟩
            · simp only [List.mem_cons, List.not_mem_nil, or_false] at hz
              rcases hz with rfl | rfl
              · exact .flat rfl
              · exact al1 (s9.trans sa)
          · have bad : ManL K Hc xa false := man_Lf (by decide +kernel) (by decide +kernel) lc
            refine BadM.same (H := Hd) ⟨bad_ms gd (by show 3 ≤ 900; decide) (fun z hz => ?_) ⟨xa, by simp, bad.same sd⟩, self_lst hr3 sd gd (by show 3 ≤ 800; decide) fun z hz => ?_⟩ (se.trans (sf.trans (sg.trans (sh.trans si))))
            · simp only [List.mem_cons, List.not_mem_nil, or_false] at hz
              rcases hz with rfl | rfl | rfl
              · exact ⟨_, man_good (m1.same (s9.trans (sa.trans (sb.trans (sc.trans sd))))) one_ok⟩
              · exact ⟨_, bad.same sd⟩
              · exact ⟨_, man_good (m2.same (s9.trans (sa.trans (sb.trans (sc.trans sd))))) oth_ok⟩
            · simp only [List.mem_cons, List.not_mem_nil, or_false] at hz
              rcases hz with rfl | rfl | rfl
              · exact al1 (s9.trans (sa.trans (sb.trans sc)))
              · exact alm_T (by decide +kernel) lc (by decide)
              · exact al2 (s9.trans (sa.trans (sb.trans sc)))
          · refine BadM.same (H := He) ⟨dup_ms ge ((Mans.one (m2.same (s9.trans (sa.trans (sb.trans (sc.trans (sd.trans se))))))).app ((Mans.one (m1.same (s9.trans (sa.trans (sb.trans (sc.trans (sd.trans se))))))).app (Mans.one (m1.same (s9.trans (sa.trans (sb.trans (sc.trans (sd.trans se))))))))) (all2 (by decide +kernel)) (by decide) (by decide +kernel), self_lst hr4 se ge (by show 3 ≤ 800; decide) fun z hz => ?_⟩ (sf.trans (sg.trans (sh.trans si)))
            simp only [List.mem_cons, List.not_mem_nil, or_false] at hz
            rcases hz with rfl | rfl | rfl
            · exact al2 (s9.trans (sa.trans (sb.trans (sc.trans sd))))
            · exact al1 (s9.trans (sa.trans (sb.trans (sc.trans sd))))
            · exact al1 (s9.trans (sa.trans (sb.trans (sc.trans sd))))
          · have no : ManL K Hg (.ref r5) false := fun H' s => .no (.base (.lst (s _ _ (sg _ _ gf)))) (kit_ty (by decide +kernel))
            refine BadM.same (H := Hg) ⟨bad_ms gg (by show 1 ≤ 900; decide) (fun z hz => ?_) ⟨.ref r5, by simp, no⟩, self_lst hr6 sg gg (by show 1 ≤ 800; decide) fun z hz => ?_⟩ (sh.trans si)
            · rw [List.mem_singleton.mp hz]
              exact ⟨_, no⟩
            · rw [List.mem_singleton.mp hz]
              refine .lst gf gf rfl (by show 2 ≤ 900; decide) fun i u v p q => ?_
              rw [p] at q
              cases q
              match i, p with
              | 0, p => cases p; exact (alm_mn (m1.same (s9.trans (sa.trans (sb.trans (sc.trans (sd.trans (se.trans sf)))))))).mono (by decide)
              | 1, p => cases p; exact (alm_mn (m2.same (s9.trans (sa.trans (sb.trans (sc.trans (sd.trans (se.trans sf)))))))).mono (by decide)
              | n + 2, p => cases p
      have L2l : (us ++ [V.ref r1, .ref r2, .ref r3, .ref r4, .ref r6]).length ≤ 16 := by
        rw [List.length_append]
        show us.length + 5 ≤ _
        omega
      generalize (us ++ [.ref r1, .ref r2, .ref r3, .ref r4, .ref r6]) = us2 at gi L2 L2l
      refine ⟨_, rfl, ?_⟩
      refine ⟨_, val_self rfl, fun xc Hj sj lj => ?_⟩
      replace lj := lj.same nw_old
      have cj := ci.trans sj
      refine ⟨(by show 1 ≤ sizeLine; decide), fun u1 hu1 => ?_⟩
      obtain ⟨Hk, ek, sk, gk⟩ : ∃ Hk, Hk = upd Hj u1 (.lst [xc]) ∧ Same Hj Hk ∧ Hk u1 = some (.lst [xc]) := ⟨_, rfl, same_upd hu1, upd_same⟩
      rw [← ek]
      clear ek
      have ck := cj.trans sk
      refine ⟨_, val_self rfl, fun y1 Hl sya lya => ?_⟩
      replace lya := lya.same nw_old
      have cya := ck.trans sya
      refine ⟨_, val_self rfl, fun y2 Hm syb lyb => ?_⟩
      replace lyb := lyb.same nw_old
      have cyb := cya.trans syb
      refine ⟨_, val_self rfl, fun y3 Hn syc lyc => ?_⟩
      replace lyc := lyc.same nw_old
      have cyc := cyb.trans syc
      refine ⟨(by show 3 ≤ sizeLine; decide), fun u2 hu2 => ?_⟩
      obtain ⟨Ho, eo, so, go⟩ : ∃ Ho, Ho = upd Hn u2 (.lst [y1, y2, y3]) ∧ Same Hn Ho ∧ Ho u2 = some (.lst [y1, y2, y3]) := ⟨_, rfl, same_upd hu2, upd_same⟩
      rw [← eo]
      clear eo
      have co := cyc.trans so
      refine ⟨(by show 2 ≤ sizeLine; decide), fun u3 hu3 => ?_⟩
      obtain ⟨Hpp, ep, sp, gp⟩ : ∃ Hpp, Hpp = upd Ho u3 (.lst [.ref u1, .ref u2]) ∧ Same Ho Hpp ∧ Hpp u3 = some (.lst [.ref u1, .ref u2]) := ⟨_, rfl, same_upd hu3, upd_same⟩
      rw [← ep]
      clear ep
      have cp := co.trans sp
      refine ⟨r8, u3, us2, _, rfl, rfl, (sj.trans (sk.trans (sya.trans (syb.trans (syc.trans (so.trans sp)))))) _ _ gi, gp, (by rw [sizeLine_eq]; show us2.length + 2 ≤ _; omega), fun u4 hu4 => ?_⟩
      obtain ⟨Hq, eq, sq, gq⟩ : ∃ Hq, Hq = upd Hpp u4 (.lst (us2 ++ [.ref u1, .ref u2])) ∧ Same Hpp Hq ∧ Hq u4 = some (.lst (us2 ++ [.ref u1, .ref u2])) := ⟨_, rfl, same_upd hu4, upd_same⟩
      rw [← eq]
      clear eq
      have cq := cp.trans sq
      have L3 : ∀ z ∈ us2 ++ [.ref u1, .ref u2], BadM K Hq z := by
        intro z hz'
        rcases List.mem_append.mp hz' with hy | hy
        · exact (L2 z hy).same (sj.trans (sk.trans (sya.trans (syb.trans (syc.trans (so.trans (sp.trans sq)))))))
        · simp only [List.mem_cons, List.not_mem_nil, or_false] at hy
          rcases hy with rfl | rfl
          · have bad : ManL K Hj xc false := man_Lf (by decide +kernel) (by decide +kernel) lj
            refine BadM.same (H := Hk) ⟨bad_ms gk (by show 1 ≤ 900; decide) (fun z hz => ?_) ⟨xc, by simp, bad.same sk⟩, self_lst hu1 sk gk (by show 1 ≤ 800; decide) fun z hz => ?_⟩ (sya.trans (syb.trans (syc.trans (so.trans (sp.trans sq)))))
            · rw [List.mem_singleton.mp hz]
              exact ⟨_, bad.same sk⟩
            · rw [List.mem_singleton.mp hz]
              exact alm_T (by decide +kernel) lj (by decide)
          · have n1 : ManAt Hl y1 mOne := man_laid (m := mOne) lya
            have n2 : ManAt Hm y2 mOth := man_laid (m := mOth) lyb
            have n3 : ManAt Hn y3 mOne := man_laid (m := mOne) lyc
            refine BadM.same (H := Ho) ⟨dup_ms go ((Mans.one (n1.same (syb.trans (syc.trans so)))).app ((Mans.one (n2.same (syc.trans so))).app (Mans.one (n3.same so)))) (all2 (by decide +kernel)) (by decide) (by decide +kernel), self_lst hu2 so go (by show 3 ≤ 800; decide) fun z hz => ?_⟩ (sp.trans sq)
            simp only [List.mem_cons, List.not_mem_nil, or_false] at hz
            rcases hz with rfl | rfl | rfl
            · exact (alm_mn (n1.same (syb.trans syc))).mono (by decide)
            · exact (alm_mn (n2.same syc)).mono (by decide)
            · exact (alm_mn n3).mono (by decide)
      generalize (us2 ++ [.ref u1, .ref u2]) = us3 at gq L3
      refine ⟨u4, rfl, ⟨_, SqL.of gq⟩, ?_⟩
      refine for_list (K := K) (a := u4) (xs := us3) (fun i σ H' => ∃ v11, σ = [some (.ref p), some (.ref x), some (.ref a), some (.ref lm), some (.ref lb), some (.ref le), some (.int (k : Int)), some (.ref r8), none, some x1, some x2, v11, none] ∧ Same Hq H') ⟨none, rfl, fun _ _ e => e⟩ (fun i σ H' _ ⟨_, _, sA⟩ => SqL.of (sA _ _ gq)) ?_ ?_
      · rintro i z σ HF hv ⟨v11, rfl, sA⟩
        have bz := (L3 z (List.mem_of_getElem? hv)).same sA
        refine ⟨_, rfl, (by show 3 ≤ sizeLine; decide), fun o1 ho1 => ?_⟩
        obtain ⟨HF1, e1, s1, g1⟩ : ∃ HF1, HF1 = upd HF o1 (.lst [z, .non, .non]) ∧ Same HF HF1 ∧ HF1 o1 = some (.lst [z, .non, .non]) := ⟨_, rfl, same_upd ho1, upd_same⟩
        rw [← e1]
        clear e1
        refine ⟨_, o1, _, _, _, rfl, g1, .inl ⟨rfl, .inl ⟨(bz.same s1).1, fun pr HF2 s2 g2 => ?_⟩⟩⟩
        refine ⟨_, rfl, pr, _, z, rfl, g2, (bz.same (s1.trans s2)).2, fun HF3 s3 => ⟨true, rfl, iteF ?_⟩⟩
        exact ⟨_, rfl, sA.trans (s1.trans (s2.trans s3))⟩
      · rintro σ HR ⟨v11, rfl, sA⟩
        have cR := cq.trans sA
        have mr : ManuAt K HR x (srtM ms) (srtW bs) (srtW es) := hmP.same cR
        refine ⟨_, rfl, lb, _, rfl, .inl ⟨SqL.of (cR _ _ h4P), fun w1 hw1 => ?_⟩⟩
        obtain ⟨HR1, e11, s11, g11⟩ : ∃ HR1, HR1 = upd HR w1 (.tup (bs.map V.str)) ∧ Same HR HR1 ∧ HR1 w1 = some (.tup (bs.map V.str)) := ⟨_, rfl, same_upd hw1, upd_same⟩
        rw [← e11]
        clear e11
        have c11 := cR.trans s11
        refine ⟨_, val_self rfl, fun w2 HR2 s12 l12 => ?_⟩
        replace l12 := l12.same nw_old
        have c12 := c11.trans s12
        refine ⟨(by show 3 ≤ sizeLine; decide), fun w3 hw3 => ?_⟩
        obtain ⟨HR3, e13, s13, g13⟩ : ∃ HR3, HR3 = upd HR2 w3 (.lst [.str "a", .str "b", .str "a"]) ∧ Same HR2 HR3 ∧ HR3 w3 = some (.lst [.str "a", .str "b", .str "a"]) := ⟨_, rfl, same_upd hw3, upd_same⟩
        rw [← e13]
        clear e13
        have c13 := c12.trans s13
        refine ⟨(by show 3 ≤ sizeLine; decide), fun w4 hw4 => ?_⟩
        obtain ⟨HR4, e14, s14, g14⟩ : ∃ HR4, HR4 = upd HR3 w4 (.lst [.str "a", .str "a", .str "b"]) ∧ Same HR3 HR4 ∧ HR4 w4 = some (.lst [.str "a", .str "a", .str "b"]) := ⟨_, rfl, same_upd hw4, upd_same⟩
        rw [← e14]
        clear e14
        have c14 := c13.trans s14
        refine ⟨(by show 2 ≤ sizeLine; decide), fun w5 hw5 => ?_⟩
        obtain ⟨HR5, e15, s15, g15⟩ : ∃ HR5, HR5 = upd HR4 w5 (.lst [.str "A", .str "a"]) ∧ Same HR4 HR5 ∧ HR5 w5 = some (.lst [.str "A", .str "a"]) := ⟨_, rfl, same_upd hw5, upd_same⟩
        rw [← e15]
        clear e15
        have c15 := c14.trans s15
        refine ⟨(by show 3 ≤ sizeLine; decide), fun w6 hw6 => ?_⟩
        obtain ⟨HR6, e16, s16, g16⟩ : ∃ HR6, HR6 = upd HR5 w6 (.lst [.str "a", .int 1, .str "b"]) ∧ Same HR5 HR6 ∧ HR6 w6 = some (.lst [.str "a", .int 1, .str "b"]) := ⟨_, rfl, same_upd hw6, upd_same⟩
        rw [← e16]
        clear e16
        have c16 := c15.trans s16
        refine ⟨(by show 1 ≤ sizeLine; decide), fun w7 hw7 => ?_⟩
        obtain ⟨HR7, e17, s17, g17⟩ : ∃ HR7, HR7 = upd HR6 w7 (.lst [.str "A"]) ∧ Same HR6 HR7 ∧ HR7 w7 = some (.lst [.str "A"]) := ⟨_, rfl, same_upd hw7, upd_same⟩
        rw [← e17]
        clear e17
        have c17 := c16.trans s17
        refine ⟨(by show 1 ≤ sizeLine; decide), fun w8 hw8 => ?_⟩
        obtain ⟨HR8, e18, s18, g18⟩ : ∃ HR8, HR8 = upd HR7 w8 (.lst [.int 1]) ∧ Same HR7 HR8 ∧ HR8 w8 = some (.lst [.int 1]) := ⟨_, rfl, same_upd hw8, upd_same⟩
        rw [← e18]
        clear e18
        have c18 := c17.trans s18
        refine ⟨(by show 1 ≤ sizeLine; decide), fun w9 hw9 => ?_⟩
        obtain ⟨HR9, e19, s19, g19⟩ : ∃ HR9, HR9 = upd HR8 w9 (.lst [.bl true]) ∧ Same HR8 HR9 ∧ HR9 w9 = some (.lst [.bl true]) := ⟨_, rfl, same_upd hw9, upd_same⟩
        rw [← e19]
        clear e19
        have c19 := c18.trans s19
        refine ⟨_, rfl, _, rfl, (by show 1 ≤ sizeLine; decide), fun wa hwa => ?_⟩
        obtain ⟨HRa, e20, s20, g20⟩ : ∃ HRa, HRa = upd HR9 wa (.lst [.str ""]) ∧ Same HR9 HRa ∧ HRa wa = some (.lst [.str ""]) := ⟨_, rfl, same_upd hwa, upd_same⟩
        rw [← e20]
        clear e20
        have c20 := c19.trans s20
        refine ⟨lb, wa, _, _, rfl, rfl, c20 _ _ h4P, g20, (by rw [List.length_map, sizeLine_eq]; show bs.length + 1 ≤ _; omega), fun wb hwb => ?_⟩
        obtain ⟨HRb, e21, s21, g21⟩ : ∃ HRb, HRb = upd HRa wb (.lst (bs.map V.str ++ [.str ""])) ∧ Same HRa HRb ∧ HRb wb = some (.lst (bs.map V.str ++ [.str ""])) := ⟨_, rfl, same_upd hwb, upd_same⟩
        rw [← e21]
        clear e21
        have c21 := c20.trans s21
        refine ⟨_, rfl, (by show 1 ≤ sizeLine; decide), fun wc hwc => ?_⟩
        obtain ⟨HRc, e22, s22, g22⟩ : ∃ HRc, HRc = upd HRb wc (.lst [.str "a"]) ∧ Same HRb HRc ∧ HRc wc = some (.lst [.str "a"]) := ⟨_, rfl, same_upd hwc, upd_same⟩
        rw [← e22]
        clear e22
        have c22 := c21.trans s22
        refine ⟨(by show 1 ≤ sizeLine; decide), fun wd hwd => ?_⟩
        obtain ⟨HRd, e23, s23, g23⟩ : ∃ HRd, HRd = upd HRc wd (.lst [.ref wc]) ∧ Same HRc HRd ∧ HRd wd = some (.lst [.ref wc]) := ⟨_, rfl, same_upd hwd, upd_same⟩
        rw [← e23]
        clear e23
        have c23 := c22.trans s23
        refine ⟨lb, wd, _, _, rfl, rfl, c23 _ _ h4P, g23, (by rw [List.length_map, sizeLine_eq]; show bs.length + 1 ≤ _; omega), fun we hwe => ?_⟩
        obtain ⟨HRe, e24, s24, g24⟩ : ∃ HRe, HRe = upd HRd we (.lst (bs.map V.str ++ [.ref wc])) ∧ Same HRd HRe ∧ HRe we = some (.lst (bs.map V.str ++ [.ref wc])) := ⟨_, rfl, same_upd hwe, upd_same⟩
        rw [← e24]
        clear e24
        have c24 := c23.trans s24
        have flat : ∀ {H' : Hp} {L : List V}, (∀ z ∈ L, flatV z = true) → ∀ z ∈ L, Alm K H' 5 z z := fun h z hz => .flat (h z hz)
        have wstr : ∀ {H' : Hp} {y : Str}, y.length ≤ 900 → WdF K H' (.str y) (wordB y) := fun h => .str (Nat.le_of_lt (small1000 (by omega)))
        have wi : ∀ {H' : Hp} {j : Int}, WdF K H' (.int j) false := fun {H' j} => .oth (fun _ _ => .base (.int j)) (kit_ty (by decide +kernel))
        have wbl : ∀ {H' : Hp}, WdF K H' (.bl true) false := fun {H'} => .oth (fun _ _ => .base (.bl true)) (kit_ty (by decide +kernel))
        have wA : ∀ {H' : Hp}, WdF K H' (.str "A") false := fun {H'} => by
          have := wstr (H' := H') (y := "A") (by decide +kernel)
          rw [show wordB "A" = false by decide +kernel] at this
          exact this
        have w0 : ∀ {H' : Hp}, WdF K H' (.str "") false := fun {H'} => by
          have := wstr (H' := H') (y := "") (by decide +kernel)
          rw [show wordB "" = false by decide +kernel] at this
          exact this
        have wa1 : ∀ {H' : Hp}, ∃ r, WdF K H' (.str "a") r := fun {H'} => ⟨_, wstr (by decide +kernel)⟩
        have wb1 : ∀ {H' : Hp}, ∃ r, WdF K H' (.str "b") r := fun {H'} => ⟨_, wstr (by decide +kernel)⟩
        have wbs : ∀ {H' : Hp}, ∀ z ∈ bs.map V.str, ∃ r, WdF K H' z r := fun {H'} z hz => by
          obtain ⟨y, hy, rfl⟩ := List.mem_map.mp hz
          exact ⟨_, wstr (by have := (om.b y hy).1.2; omega)⟩
        have fbs : ∀ z ∈ bs.map V.str, flatV z = true := fun z hz => by
          obtain ⟨y, hy, rfl⟩ := List.mem_map.mp hz
          rfl
        have wab : ∀ y ∈ [("a" : Str), "b"], Word y := fun y hy => by
          simp only [List.mem_cons, List.not_mem_nil, or_false] at hy
          rcases hy with rfl | rfl
          · exact ⟨⟨by decide +kernel, by decide +kernel⟩, by decide +kernel⟩
          · exact ⟨⟨by decide +kernel, by decide +kernel⟩, by decide +kernel⟩
        have R1 : ∀ z ∈ [V.ref w1, .non, .str "a", w2, .ref w3, .ref w4, .ref w5, .ref w6, .ref w7, .ref w8, .ref w9, .ref x, .ref wb, .ref we], BadR K HRe z := by
          intro z hz'
          simp only [List.mem_cons, List.not_mem_nil, or_false] at hz'
          rcases hz' with rfl | rfl | rfl | rfl | rfl | rfl | rfl | rfl | rfl | rfl | rfl | rfl | rfl | rfl
          · have g := (s12.trans (s13.trans (s14.trans (s15.trans (s16.trans (s17.trans (s18.trans (s19.trans (s20.trans (s21.trans (s22.trans (s23.trans s24)))))))))))) _ _ g11
            exact ⟨(noL_tup g).rm, self_tup g (by rw [List.length_map]; omega) (flat fbs)⟩
          · exact ⟨(noL_T (t := .v .non) (.v _) rfl (by decide)).rm, self_T (t := .v .non) (by decide) (.v _) rfl (by decide) (by decide)⟩
          · exact ⟨(noL_T (t := .v (.str "a")) (.v _) rfl (by decide)).rm, self_T (t := .v (.str "a")) (by decide +kernel) (.v _) rfl (by decide) (by decide)⟩
          · exact ⟨(noL_T (l12.same (s13.trans (s14.trans (s15.trans (s16.trans (s17.trans (s18.trans (s19.trans (s20.trans (s21.trans (s22.trans (s23.trans s24)))))))))))) rfl (by decide)).rm, self_T (by decide +kernel) (l12.same (s13.trans (s14.trans (s15.trans (s16.trans (s17.trans (s18.trans (s19.trans (s20.trans (s21.trans (s22.trans (s23.trans s24)))))))))))) rfl (by decide) (by decide)⟩
          · exact BadR.same (H := HR3) ⟨dup_rm (ws := ["a", "b", "a"]) g13 (fun y hy => wab y (by simp at hy; simp; rcases hy with h | h | h <;> simp [h])) (by decide) (by decide +kernel), self_lst hw3 s13 g13 (by decide) (flat (by decide +kernel))⟩ (s14.trans (s15.trans (s16.trans (s17.trans (s18.trans (s19.trans (s20.trans (s21.trans (s22.trans (s23.trans s24))))))))))
          · exact BadR.same (H := HR4) ⟨dup_rm (ws := ["a", "a", "b"]) g14 (fun y hy => wab y (by simp at hy; simp; rcases hy with h | h <;> simp [h])) (by decide) (by decide +kernel), self_lst hw4 s14 g14 (by decide) (flat (by decide +kernel))⟩ (s15.trans (s16.trans (s17.trans (s18.trans (s19.trans (s20.trans (s21.trans (s22.trans (s23.trans s24)))))))))
          · refine BadR.same (H := HR5) ⟨bad_rm g15 (by decide) (fun z hz => ?_) ⟨_, by simp, wA⟩, self_lst hw5 s15 g15 (by decide) (flat (by decide +kernel))⟩ (s16.trans (s17.trans (s18.trans (s19.trans (s20.trans (s21.trans (s22.trans (s23.trans s24))))))))
            simp only [List.mem_cons, List.not_mem_nil, or_false] at hz
            rcases hz with rfl | rfl
            · exact ⟨_, wA⟩
            · exact wa1
          · refine BadR.same (H := HR6) ⟨bad_rm g16 (by decide) (fun z hz => ?_) ⟨.int 1, by simp, wi⟩, self_lst hw6 s16 g16 (by decide) (flat (by decide +kernel))⟩ (s17.trans (s18.trans (s19.trans (s20.trans (s21.trans (s22.trans (s23.trans s24)))))))
            simp only [List.mem_cons, List.not_mem_nil, or_false] at hz
            rcases hz with rfl | rfl | rfl
            · exact wa1
            · exact ⟨_, wi⟩
            · exact wb1
          · refine BadR.same (H := HR7) ⟨bad_rm g17 (by decide) (fun z hz => ?_) ⟨_, by simp, wA⟩, self_lst hw7 s17 g17 (by decide) (flat (by decide +kernel))⟩ (s18.trans (s19.trans (s20.trans (s21.trans (s22.trans (s23.trans s24))))))
            rw [List.mem_singleton.mp hz]
            exact ⟨_, wA⟩
          · refine BadR.same (H := HR8) ⟨bad_rm g18 (by decide) (fun z hz => ?_) ⟨.int 1, by simp, wi⟩, self_lst hw8 s18 g18 (by decide) (flat (by decide +kernel))⟩ (s19.trans (s20.trans (s21.trans (s22.trans (s23.trans s24)))))
            rw [List.mem_singleton.mp hz]
            exact ⟨_, wi⟩
          · refine BadR.same (H := HR9) ⟨bad_rm g19 (by decide) (fun z hz => ?_) ⟨.bl true, by simp, wbl⟩, self_lst hw9 s19 g19 (by decide) (flat (by decide +kernel))⟩ (s20.trans (s21.trans (s22.trans (s23.trans s24))))
            rw [List.mem_singleton.mp hz]
            exact ⟨_, wbl⟩
          · exact ⟨(noL_man M N (hmP.same c24)).rm, self_man M N (hmP.same c24) oms⟩
          · have ll : (bs.map V.str ++ [V.str ""]).length ≤ 9 := by
              rw [List.length_append, List.length_map]
              show bs.length + 1 ≤ _
              omega
            refine BadR.same (H := HRb) ⟨bad_rm g21 (by omega) (fun z hz => ?_) ⟨.str "", by simp, w0⟩, self_lst hwb s21 g21 (by omega) (flat fun z hz => ?_)⟩ (s22.trans (s23.trans s24))
            · rcases List.mem_append.mp hz with hz | hz
              · exact wbs z hz
              · rw [List.mem_singleton.mp hz]
                exact ⟨_, w0⟩
            · rcases List.mem_append.mp hz with hz | hz
              · exact fbs z hz
              · rw [List.mem_singleton.mp hz]
                rfl
          · have ll : (bs.map V.str ++ [V.ref wc]).length ≤ 9 := by
              rw [List.length_append, List.length_map]
              show bs.length + 1 ≤ _
              omega
            have wr : WdF K HRe (.ref wc) false := .oth (fun H' s => .base (.lst (s _ _ ((s23.trans s24) _ _ g22)))) (kit_ty (by decide +kernel))
            refine ⟨bad_rm g24 (by omega) (fun z hz => ?_) ⟨.ref wc, by simp, wr⟩, self_lst hwe s24 g24 (by omega) fun z hz => ?_⟩
            · rcases List.mem_append.mp hz with hz | hz
              · exact wbs z hz
              · rw [List.mem_singleton.mp hz]
                exact ⟨_, wr⟩
            · rcases List.mem_append.mp hz with hz | hz
              · exact .flat (fbs z hz)
              · rw [List.mem_singleton.mp hz]
                refine .lst (s23 _ _ g22) (s23 _ _ g22) rfl (by decide) fun i u v p q => ?_
                rw [p] at q
                cases q
                match i, p with
                | 0, p => cases p; exact .flat rfl
                | n + 1, p => cases p
        refine ⟨(by show 14 ≤ sizeLine; decide), fun wf hwf => ?_⟩
        obtain ⟨HRf, e25, s25, g25⟩ : ∃ HRf, HRf = upd HRe wf (.tup [V.ref w1, .non, .str "a", w2, .ref w3, .ref w4, .ref w5, .ref w6, .ref w7, .ref w8, .ref w9, .ref x, .ref wb, .ref we]) ∧ Same HRe HRf ∧ HRf wf = some (.tup [V.ref w1, .non, .str "a", w2, .ref w3, .ref w4, .ref w5, .ref w6, .ref w7, .ref w8, .ref w9, .ref x, .ref wb, .ref we]) := ⟨_, rfl, same_upd hwf, upd_same⟩
        rw [← e25]
        clear e25
        have c25 := c24.trans s25
        generalize [V.ref w1, .non, .str "a", w2, .ref w3, .ref w4, .ref w5, .ref w6, .ref w7, .ref w8, .ref w9, .ref x, .ref wb, .ref we] = us4 at g25 R1
        refine ⟨wf, rfl, ⟨_, SqT.of g25⟩, ?_⟩
        refine for_tup (K := K) (a := wf) (xs := us4) (fun i σ H' => ∃ v11, σ = [some (.ref p), some (.ref x), some (.ref a), some (.ref lm), some (.ref lb), some (.ref le), some (.int (k : Int)), some (.ref r8), none, some x1, some x2, v11, none] ∧ Same HRf H') ⟨_, rfl, fun _ _ e => e⟩ (fun i σ H' _ ⟨_, _, sB⟩ => SqT.of (sB _ _ g25)) ?_ ?_
        · rintro i z σ HF hv ⟨v11, rfl, sB⟩
          have bz := (R1 z (List.mem_of_getElem? hv)).same (s25.trans sB)
          have cF := c25.trans sB
          refine ⟨_, rfl, _, rfl, (by show 3 ≤ sizeLine; decide), fun o1 ho1 => ?_⟩
          obtain ⟨HF1, e1, s1, g1⟩ : ∃ HF1, HF1 = upd HF o1 (.lst [.ref lm, z, .non]) ∧ Same HF HF1 ∧ HF1 o1 = some (.lst [.ref lm, z, .non]) := ⟨_, rfl, same_upd ho1, upd_same⟩
          rw [← e1]
          clear e1
          have mg1 : MsL K HF1 (.ref lm) true := mans_form ((cF.trans s1) _ _ h2P) (h3P.same (cF.trans s1)) om.m (by omega) W.mn
          refine ⟨_, o1, _, _, _, rfl, g1, .inl ⟨rfl, .inr ⟨mg1, .inl ⟨(bz.same s1).1, fun pr HF2 s2 g2 => ?_⟩⟩⟩⟩
          refine ⟨_, rfl, pr, _, z, rfl, g2, (bz.same (s1.trans s2)).2, fun HF3 s3 => ⟨true, rfl, iteF ?_⟩⟩
          have s13 := s1.trans (s2.trans s3)
          refine ⟨_, rfl, _, rfl, _, rfl, (by show 3 ≤ sizeLine; decide), fun o2 ho2 => ?_⟩
          obtain ⟨HF4, e4, s4, g4⟩ : ∃ HF4, HF4 = upd HF3 o2 (.lst [.ref lm, .ref lb, z]) ∧ Same HF3 HF4 ∧ HF4 o2 = some (.lst [.ref lm, .ref lb, z]) := ⟨_, rfl, same_upd ho2, upd_same⟩
          rw [← e4]
          clear e4
          have c4F := (cF.trans s13).trans s4
          have mg4 : MsL K HF4 (.ref lm) true := mans_form (c4F _ _ h2P) (h3P.same c4F) om.m (by omega) W.mn
          have rg4 : RmL K HF4 (.ref lb) true := rooms_form (c4F _ _ h4P) om.b (by omega) W.bn
          refine ⟨_, o2, _, _, _, rfl, g4, .inl ⟨rfl, .inr ⟨mg4, .inr ⟨rg4, (bz.same (s13.trans s4)).1, fun pr HF5 s5 g5 => ?_⟩⟩⟩⟩
          refine ⟨_, rfl, pr, _, z, rfl, g5, (bz.same (s13.trans (s4.trans s5))).2, fun HF6 s6 => ⟨true, rfl, iteF ?_⟩⟩
          exact ⟨_, rfl, sB.trans (s13.trans (s4.trans (s5.trans s6)))⟩
        · rintro σ HS ⟨v11, rfl, sB⟩
          have cS := c25.trans sB
          refine ⟨(by show 0 ≤ sizeLine; decide), fun y1 hy1 => ?_⟩
          obtain ⟨HS1, e31, s31, g31⟩ : ∃ HS1, HS1 = upd HS y1 (.lst []) ∧ Same HS HS1 ∧ HS1 y1 = some (.lst []) := ⟨_, rfl, same_upd hy1, upd_same⟩
          rw [← e31]
          clear e31
          have c31 := cS.trans s31
          refine fun y2 hy2 => ?_
          obtain ⟨HS2, e32, s32, g32⟩ : ∃ HS2, HS2 = upd HS1 y2 (.dK []) ∧ Same HS1 HS2 ∧ HS2 y2 = some (.dK []) := ⟨_, rfl, same_upd hy2, upd_same⟩
          rw [← e32]
          clear e32
          have c32 := c31.trans s32
          refine ⟨_, rfl, _, rfl, _, rfl, _, rfl, (by show 3 ≤ sizeLine; decide), fun y3 hy3 => ?_⟩
          obtain ⟨HS3, e33, s33, g33⟩ : ∃ HS3, HS3 = upd HS2 y3 (.tup [.ref lm, .ref lb, .ref le]) ∧ Same HS2 HS3 ∧ HS3 y3 = some (.tup [.ref lm, .ref lb, .ref le]) := ⟨_, rfl, same_upd hy3, upd_same⟩
          rw [← e33]
          clear e33
          have c33 := c32.trans s33
          refine ⟨_, rfl, (by show 1 ≤ sizeLine; decide), fun y4 hy4 => ?_⟩
          obtain ⟨HS4, e34, s34, g34⟩ : ∃ HS4, HS4 = upd HS3 y4 (.lst [.ref x]) ∧ Same HS3 HS4 ∧ HS4 y4 = some (.lst [.ref x]) := ⟨_, rfl, same_upd hy4, upd_same⟩
          rw [← e34]
          clear e34
          have c34 := c33.trans s34
          refine ⟨_, rfl, (by show 1 ≤ sizeLine; decide), fun y5 hy5 => ?_⟩
          obtain ⟨HS5, e35, s35, g35⟩ : ∃ HS5, HS5 = upd HS4 y5 (.tup [.ref x]) ∧ Same HS4 HS5 ∧ HS5 y5 = some (.tup [.ref x]) := ⟨_, rfl, same_upd hy5, upd_same⟩
          rw [← e35]
          clear e35
          have c35 := c34.trans s35
          have nom : ∀ {z : V}, Nm HS5 z → ∀ H', Same HS5 H' → NoMan K H' z := fun h H' s => by
            obtain ⟨T, mT, _, _, tx⟩ := (h.same s).ty (K := K)
            exact ⟨_, tx, Z.k T mT⟩
          have almx : ∀ {H'}, Same HP H' → Alm K H' 5 (.ref x) (.ref x) := fun s => .man (hmP.same s) oms
          have slm : ∀ {H'}, Same HP H' → Self K H' (.ref lm) := fun {H'} s => by
            have g := s _ _ h2P
            refine ⟨fun H2 s2 => ?_, .inr ⟨lm, ws, rfl, g, by omega, fun z hz H2 b2 => ?_⟩⟩
            · refine .lst (s2 _ _ g) (s2 _ _ g) rfl (by omega) fun i u v p q => ?_
              rw [p] at q
              cases q
              exact alm_mns (h3P.same (s.trans s2)) u (List.mem_of_getElem? p)
            · refine (alm_mns ((h3P.same s).hid g) z hz).same fun c o e => b2 c o (hid_some e).1 (hid_some e).2
          have S1 : ∀ z ∈ [V.non, .int 0, .bl true, .str "a", .ref y1, .ref y2, .ref lm, .ref y3, .ref y4, .ref y5], Nm HS5 z ∧ Self K HS5 z := by
            intro z hz'
            simp only [List.mem_cons, List.not_mem_nil, or_false] at hz'
            rcases hz' with rfl | rfl | rfl | rfl | rfl | rfl | rfl | rfl | rfl | rfl
            · exact ⟨.inl rfl, self_T (t := .v .non) (by decide) (.v _) rfl (by decide) (by decide)⟩
            · exact ⟨.inr (.inr (.inl ⟨_, rfl⟩)), self_T (t := .v (.int 0)) (by decide) (.v _) rfl (by decide) (by decide)⟩
            · exact ⟨.inr (.inl ⟨_, rfl⟩), self_T (t := .v (.bl true)) (by decide) (.v _) rfl (by decide) (by decide)⟩
            · exact ⟨.inr (.inr (.inr (.inl ⟨_, rfl⟩))), self_T (t := .v (.str "a")) (by decide +kernel) (.v _) rfl (by decide) (by decide)⟩
            · have sf : Self K HS1 (.ref y1) := self_lst hy1 s31 g31 (by decide) (fun z hz => (List.not_mem_nil hz).elim)
              exact ⟨.inr (.inr (.inr (.inr ⟨_, _, rfl, (s32.trans (s33.trans (s34.trans s35))) _ _ g31, .inl ⟨_, rfl⟩⟩))), sf.same (s32.trans (s33.trans (s34.trans s35)))⟩
            · have l : Laid HS5 (.ref y2) (.dct [] []) := Laid.dct (kvs := []) ((s33.trans (s34.trans s35)) _ _ g32) .nil
              exact ⟨.inr (.inr (.inr (.inr ⟨_, _, rfl, (s33.trans (s34.trans s35)) _ _ g32, .inr (.inr ⟨_, rfl⟩)⟩))), self_T (by decide +kernel) l rfl (by decide) (by decide)⟩
            · exact ⟨.inr (.inr (.inr (.inr ⟨_, _, rfl, c35 _ _ h2P, .inl ⟨_, rfl⟩⟩))), slm c35⟩
            · have g := (s34.trans s35) _ _ g33
              refine ⟨.inr (.inr (.inr (.inr ⟨_, _, rfl, g, .inr (.inl ⟨_, rfl⟩)⟩))), self_tup g (by show 3 ≤ 900; decide) fun z hz => ?_⟩
              simp only [List.mem_cons, List.not_mem_nil, or_false] at hz
              rcases hz with rfl | rfl | rfl
              · refine .lst (c35 _ _ h2P) (c35 _ _ h2P) rfl (by omega) fun i u v p q => ?_
                rw [p] at q
                cases q
                obtain ⟨m, em⟩ : ∃ m, ms[i]? = some m := ⟨_, List.getElem?_eq_getElem (by rw [← h3P.1]; exact (List.getElem?_eq_some_iff.mp p).1)⟩
                exact (alm_mn ((h3P.same c35).2 i u m p em)).mono (by decide)
              · refine .lst (c35 _ _ h4P) (c35 _ _ h4P) rfl (by rw [List.length_map]; omega) fun i u v p q => ?_
                rw [p] at q
                cases q
                obtain ⟨y, _, rfl⟩ := item_str p
                exact .flat rfl
              · refine .lst (c35 _ _ h5P) (c35 _ _ h5P) rfl (by rw [List.length_map]; omega) fun i u v p q => ?_
                rw [p] at q
                cases q
                obtain ⟨y, _, rfl⟩ := item_str p
                exact .flat rfl
            · have sf : Self K HS4 (.ref y4) := self_lst hy4 s34 g34 (by show 1 ≤ 800; decide) (fun z hz => by rw [List.mem_singleton.mp hz]; exact almx c33)
              exact ⟨.inr (.inr (.inr (.inr ⟨_, _, rfl, s35 _ _ g34, .inl ⟨_, rfl⟩⟩))), sf.same s35⟩
            · exact ⟨.inr (.inr (.inr (.inr ⟨_, _, rfl, g35, .inr (.inl ⟨_, rfl⟩)⟩))), self_tup g35 (by show 1 ≤ 900; decide) fun z hz => by rw [List.mem_singleton.mp hz]; exact almx c35⟩
          refine ⟨(by show 10 ≤ sizeLine; decide), fun y6 hy6 => ?_⟩
          obtain ⟨HS6, e36, s36, g36⟩ : ∃ HS6, HS6 = upd HS5 y6 (.tup [V.non, .int 0, .bl true, .str "a", .ref y1, .ref y2, .ref lm, .ref y3, .ref y4, .ref y5]) ∧ Same HS5 HS6 ∧ HS6 y6 = some (.tup [V.non, .int 0, .bl true, .str "a", .ref y1, .ref y2, .ref lm, .ref y3, .ref y4, .ref y5]) := ⟨_, rfl, same_upd hy6, upd_same⟩
          rw [← e36]
          clear e36
          have c36 := c35.trans s36
          generalize [V.non, .int 0, .bl true, .str "a", .ref y1, .ref y2, .ref lm, .ref y3, .ref y4, .ref y5] = us5 at g36 S1
          refine ⟨y6, rfl, ⟨_, SqT.of g36⟩, ?_⟩
          refine for_tup (K := K) (a := y6) (xs := us5) (fun i σ H' => ∃ v8 v12, σ = [some (.ref p), some (.ref x), some (.ref a), some (.ref lm), some (.ref lb), some (.ref le), some (.int (k : Int)), some (.ref r8), v8, some x1, some x2, v11, v12] ∧ Same HS6 H') ⟨_, _, rfl, fun _ _ e => e⟩ (fun i σ H' _ ⟨_, _, _, sD⟩ => SqT.of (sD _ _ g36)) ?_ ?_
          · rintro i z σ HF hv ⟨v8, v12, rfl, sD⟩
            obtain ⟨nz, sz⟩ := S1 z (List.mem_of_getElem? hv)
            have s5F : Same HS5 HF := s36.trans sD
            refine ⟨(by show 3 ≤ sizeLine; decide), fun o1 ho1 => ?_⟩
            obtain ⟨HF1, e1, s1, g1⟩ : ∃ HF1, HF1 = upd HF o1 (.tup [.str "at", .str "rooms", .str "jobs"]) ∧ Same HF HF1 ∧ HF1 o1 = some (.tup [.str "at", .str "rooms", .str "jobs"]) := ⟨_, rfl, same_upd ho1, upd_same⟩
            rw [← e1]
            clear e1
            refine ⟨o1, rfl, ⟨_, SqT.of g1⟩, ?_⟩
            refine for_tup (K := K) (a := o1) (xs := [.str "at", .str "rooms", .str "jobs"]) (fun i σ H' => ∃ v12, σ = [some (.ref p), some (.ref x), some (.ref a), some (.ref lm), some (.ref lb), some (.ref le), some (.int (k : Int)), some (.ref r8), some z, some x1, some x2, v11, v12] ∧ Same HF1 H') ⟨_, rfl, fun _ _ e => e⟩ (fun i σ H' _ ⟨_, _, sE⟩ => SqT.of (sE _ _ g1)) ?_ ?_
            · rintro j u σ HG hu' ⟨v12, rfl, sE⟩
              refine ⟨_, rfl, _, rfl, (by show 3 ≤ sizeLine; decide), fun o2 ho2 => ?_⟩
              obtain ⟨HG1, e2, s2, g2⟩ : ∃ HG1, HG1 = upd HG o2 (.lst [z, .non, .non]) ∧ Same HG HG1 ∧ HG1 o2 = some (.lst [z, .non, .non]) := ⟨_, rfl, same_upd ho2, upd_same⟩
              rw [← e2]
              clear e2
              have s5G : Same HS5 HG1 := s5F.trans (s1.trans (sE.trans s2))
              have nzG := nom nz HG1 s5G
              have hu2 := List.mem_of_getElem? hu'
              simp only [List.mem_cons, List.not_mem_nil, or_false] at hu2
              rcases hu2 with rfl | rfl | rfl
              · refine ⟨_, o2, _, _, _, rfl, g2, .inr (.inl ⟨rfl, .inl ⟨nzG, fun pr HG2 s3 g3 => ?_⟩⟩)⟩
                refine ⟨_, rfl, pr, _, z, rfl, g3, sz.same (s5G.trans s3), fun HG3 s4 => ⟨true, rfl, iteF ?_⟩⟩
                exact ⟨_, rfl, sE.trans (s2.trans (s3.trans s4))⟩
              · refine ⟨_, o2, _, _, _, rfl, g2, .inr (.inr ⟨.inl rfl, nzG, fun pr HG2 s3 g3 => ?_⟩)⟩
                refine ⟨_, rfl, pr, _, z, rfl, g3, sz.same (s5G.trans s3), fun HG3 s4 => ⟨true, rfl, iteF ?_⟩⟩
                exact ⟨_, rfl, sE.trans (s2.trans (s3.trans s4))⟩
              · refine ⟨_, o2, _, _, _, rfl, g2, .inr (.inr ⟨.inr rfl, nzG, fun pr HG2 s3 g3 => ?_⟩)⟩
                refine ⟨_, rfl, pr, _, z, rfl, g3, sz.same (s5G.trans s3), fun HG3 s4 => ⟨true, rfl, iteF ?_⟩⟩
                exact ⟨_, rfl, sE.trans (s2.trans (s3.trans s4))⟩
            · rintro σ HG ⟨v12, rfl, sE⟩
              exact ⟨_, _, rfl, sD.trans (s1.trans sE)⟩
          · rintro σ HF ⟨v8, v12, rfl, sD⟩
            exact q _ (oP.trans (.of_same (c36.trans sD))) (pP.same (c36.trans sD))
end
end L2.K03
set_option Elab.async false
set_option linter.all false
set_option maxRecDepth 100000
set_option maxHeartbeats 4000000
/-! list(reversed(x)), x a list -/
namespace L2.EV
open PySem PySem.Spec PyProof.Rows RT
section
variable {prog : Program} {w : World} {A : Around} {E : Value → Shared → Prop} {s : Shared}
theorem extend_rev {R : Result → Shared → Prop} (hh : A.handled = none) {it l : Addr} {items : Array Value} (S : Addr) (res : Value) (c₀ : Nat) (hS : s.heap.get? S = some { cls := .type "list", data := .seq #[] c₀ })
    (hit : s.heap.IsRevIter it l ((items.size : Int) - 1)) (hl : s.heap.IsList l items) (hne : l ≠ it) (hSi : S ≠ it) (hSl : S ≠ l)
    (hR : ∀ h' tk acc' c', (∀ b o, b ≠ S → b ≠ it → s.heap.get? b = some o → h'.get? b = some o) → h'.get? S = some { cls := .type "list", dict := none, data := .seq acc' c', slots := #[] } →
      ItemsOf (fun i v => items[items.size - 1 - i]? = some v) acc' items.size → R (.ok (.ret res)) { s with heap := h', toks := tk }) (hn : items.size ≤ sizeLine) :
    wpAny (model prog w) A.in1 (Builtin.List.listExtendWith (.ref S) (.ref it) res)
      (fun fin s' => match fin with | .done f => R (.ok f) s' | .again c' => c'.quiet = true ∧ codeAny (model prog w) A c' R s') (fun e s' => R (.error e) s') s := by
  have W := (Walks.listRev (prog := prog) (w := w) (A := A.in1) hh it l hne items).toS
  have hSf : S ∉ [it, l] := by simp only [List.mem_cons, List.not_mem_nil, or_false, not_or]; exact ⟨hSi, hSl⟩
  have hT : s.TypeIs (.ref it) "list_reverseiterator" := Heap.IsRevIter.typeIs hit
  have h1 : Builtin.List.listSameRef (.ref S) (.ref it) = false := by simp [Builtin.List.listSameRef, hSi]
  unfold Builtin.List.listExtendWith
  refine wpAny_bind (wpAny_typeOf hT ?_)
  rw [if_neg (by rw [h1]; decide)]
  refine wpAny_bind (wpAny_pyIter_revIter hit ?_)
  refine wpAny_bind (wpAny_holding ?_)
  unfold Builtin.List.listLengthHint
  refine wpAny_bind (wpAny_specialOf hT nolen_lri ?_)
  show wpAny _ A.in1 (specialOf (Value.ref it) (Str.ofString "__length_hint__") >>= _) _ _ _
  refine wpAny_bind (wpAny_specialOf hT hint_lri ?_)
  generalize hid : ("list_reverseiterator.__length_hint__" : String) = id0
  wp_delta
  rw [show splitId id0 = some ("list_reverseiterator", "__length_hint__") from by subst hid; decide +kernel]
  subst hid
  refine wpAny_bind (wpAny_isInstance (b := true) hT (by rw [isSubtype_type]; kernel_rfl) ?_)
  refine wpAny_pure ?_
  rw [if_neg (by decide)]
  have e0 : ((items.size : Nat) : Int) - 1 - ((0 : Nat) : Int) = (items.size : Int) - 1 := by omega
  refine wpAny_pure ⟨plainId_quiet F.plain_extend_loop _, codeAny_extend_loopS W hn _ hSf _ items.size 0 _ _ _ rfl (Nat.zero_le _) ⟨Nat.zero_le _, by rw [e0]; exact hit, hl⟩ hS (ItemsOf.nil _) fun s' acc' c' hm hS' hacc => ?_⟩
  rw [Moved.eq_with hm]
  refine hR s'.heap s'.toks acc' c' (fun b o hb hi e => hm.heap b o (fun hmem => ?_) e) hS' hacc
  rcases List.mem_cons.mp hmem with e' | hmem
  · exact hb e'
  · exact hi (List.mem_singleton.mp hmem)
theorem init_rev {R : Result → Shared → Prop} (hh : A.handled = none) {it l : Addr} {items : Array Value} (S : Addr) (hS : s.heap.get? S = some { cls := .type "list", data := .seq #[] })
    (hit : s.heap.IsRevIter it l ((items.size : Int) - 1)) (hl : s.heap.IsList l items) (hne : l ≠ it) (hSi : S ≠ it) (hSl : S ≠ l)
    (hR : ∀ h' tk acc' c', (∀ b o, b ≠ S → b ≠ it → s.heap.get? b = some o → h'.get? b = some o) → h'.get? S = some { cls := .type "list", dict := none, data := .seq acc' c', slots := #[] } →
      ItemsOf (fun i v => items[items.size - 1 - i]? = some v) acc' items.size → R (.ok (.ret .none)) { s with heap := h', toks := tk }) (hn : items.size ≤ sizeLine) :
    wpAny (model prog w) A.in1 (Builtin.«list.__init__» ⟨[.ref S, .ref it], []⟩)
      (fun fin s' => match fin with | .done f => R (.ok f) s' | .again c' => c'.quiet = true ∧ codeAny (model prog w) A c' R s') (fun e s' => R (.error e) s') s := by
  show wpAny _ _ (do let old ← Builtin.List.listItems (.ref S); Builtin.List.listUpdate (.ref S) (fun _ => #[]); letGo old.toList.reverse; Builtin.List.listExtendWith (.ref S) (.ref it) .none) _ _ s
  refine wpAny_bind ?_
  unfold Builtin.List.listItems
  refine wpAny_bind (wpAny_seqItems hS rfl (wpAny_pure ?_))
  show wpAny _ _ (updateSeq S (fun _ => #[]) >>= fun _ => letGo (#[] : Array Value).toList.reverse >>= fun _ => Builtin.List.listExtendWith (.ref S) (.ref it) .none) _ _ s
  refine wpAny_bind (wpAny_updateSeq hS rfl ?_)
  have hS₂ := Heap.get?_update_self (Obj.mapSeq (fun _ => (#[] : Array Value))) hS rfl
  have oth : ∀ b o, b ≠ S → s.heap.get? b = some o → (s.heap.update S (Obj.mapSeq (fun _ => (#[] : Array Value)))).get? b = some o :=
    fun b o hb e => (Heap.get?_update_other _ _ (Ne.symm hb)).trans e
  refine wpAny_bind (wpAny_letGo ?_)
  obtain ⟨ol, hol, r⟩ := hl
  refine extend_rev (hn := hn) hh S .none _ hS₂ (hit.at fun o e => oth it o (Ne.symm hSi) e) ⟨ol, oth l ol (Ne.symm hSl) hol, r⟩ hne hSi hSl fun h' tk acc' c' hk hS' hacc => ?_
  exact hR h' tk acc' c' (fun b o hb hi e => hk b o hb hi (oth b o hb e)) hS' hacc
theorem call_list_rev {it l : Addr} {items : Array Value} {Q : Value → Shared → Prop} (hh : A.handled = none) (hit : s.heap.IsRevIter it l ((items.size : Int) - 1)) (hl : s.heap.IsList l items) (hne : l ≠ it) (hn : items.size ≤ sizeLine)
    (hQ : ∀ h' tk acc' c', (∀ b o, b ≠ it → s.heap.get? b = some o → h'.get? b = some o) →
      h'.get? s.heap.objs.size = some { cls := .type "list", dict := none, data := .seq acc' c', slots := #[] } → ItemsOf (fun i v => items[items.size - 1 - i]? = some v) acc' items.size → Q (.ref s.heap.objs.size) { s with heap := h', toks := tk }) :
    wpAny (model prog w) A (call (.type "list") [.ref it]) Q E s := by
  refine callType_codes (Q₁ := fun obj s₁ => obj = .ref s.heap.objs.size ∧ s₁ = { s with heap := s.heap.push { cls := .type "list", data := .seq #[] } }) F.called_list (F.typeCall_list_1 _) F.entry_list_init
    (code_list_new _ ⟨rfl, rfl⟩) fun obj s₁ h₁ => ?_
  obtain ⟨rfl, rfl⟩ := h₁
  have hS : (s.heap.push { cls := .type "list", data := .seq #[] }).get? s.heap.objs.size = some { cls := .type "list", data := .seq #[] } := Heap.get?_push_size _ rfl
  obtain ⟨oi, hoi, _⟩ := id hit
  obtain ⟨ol, hol, _⟩ := id hl
  refine ⟨⟨_, hS, rfl⟩, F.args_list_init_2 _ _, init_rev (A := A.in1) (hn := hn) hh _ hS (hit.at fun o e => Heap.get?_push_of_some _ e) (hl.push _) hne (Nat.ne_of_gt (Heap.lt_size hoi)) (Nat.ne_of_gt (Heap.lt_size hol)) fun h' tk acc' c' hk hS' hacc => ?_⟩
  exact ⟨rfl, hQ h' tk acc' c' (fun b o hi e => hk b o (Nat.ne_of_lt (Heap.lt_size e)) hi (Heap.get?_push_of_some _ e)) hS' hacc⟩
end
/-- list(reversed(x)), x a list: a new list -/
def tLstRev (K : PySem.W.Frag) (te : TE) : TE := fun σ H Q => te σ H fun v H1 => ∃ (a : Addr) (xs : List V), v = .ref a ∧ SqL K H1 a xs ∧ ∀ q, H1 q = none → Q (.ref q) (upd H1 q (.lst xs.reverse))
section
variable {X : Cx}
theorem pe_lstRev {e : Expr} {te : TE} {p p2 pos pos2 : Pos} (hc : X.calm = true) (hg : Gl X "list") (hm : X.mg "list" = none) (hg2 : Gl X "reversed") (hm2 : X.mg "reversed" = none) (he : PE X e te)
    (hs : starEach [e] X.env = (false, eval e X.env) :: starEach [] X.env := by rfl)
    (hs2 : starEach [.Call (.Name "reversed" p2) [e] [] pos2] X.env = (false, eval (.Call (.Name "reversed" p2) [e] [] pos2) X.env) :: starEach [] X.env := by rfl) :
    PE X (.Call (.Name "list" p) [.Call (.Name "reversed" p2) [e] [] pos2] [] pos) (tLstRev X.K te) := by
  refine ⟨fun pins s σ H Q I h => ?_⟩
  refine Call_ (ld_blt I hg hm PyProof.Rows.boot_list (PyProof.Rows.callWith_type1 (args_cons (Call_ (ld_blt I hg2 hm2 PyProof.Rows.boot_reversed (PyProof.Rows.callWith_type1 (args_cons (thn (he.run pins s σ H _ I h) fun u s1 ⟨v, H1, I1, r1, q1⟩ => args_nil ?_) hs) hs rfl))) hs2) hs2 rfl))
  obtain ⟨a, xs, ev, hq, q⟩ := q1
  subst ev
  obtain rfl : u = Value.ref a := r1
  obtain ⟨its, rv, p', hz⟩ := I1.list hq
  refine call_reversed_list p'.isList (args_nil ?_)
  have k0 : ∀ b o, s1.heap.get? b = some o → (s1.heap.push (revObj a ((its.toArray.size : Int) - 1))).get? b = some o := fun b o e => Heap.get?_push_of_some _ e
  have I2 : Inv X pins σ H1 { s1 with heap := s1.heap.push (revObj a ((its.toArray.size : Int) - 1)) } := I1.kept (t' := s1.toks) k0
  have fp := I1.fpOk (H' := H1) (b := s1.heap.objs.size) (Nat.le_refl _) (I1.hok.fresh (Nat.le_refl _))
  have hl := p'.isList
  obtain ⟨ol, hol, _⟩ := id hl
  have hne : a ≠ s1.heap.objs.size := Nat.ne_of_lt (Heap.lt_size hol)
  have hn : its.toArray.size ≤ sizeLine := by rw [List.size_toArray, ← rv.length]; exact hz
  refine call_list_rev (s := { s1 with heap := s1.heap.push (revObj a ((its.toArray.size : Int) - 1)) }) (I1.ok.hd hc) ⟨_, Heap.get?_push_size _ rfl, rfl, rfl⟩ (hl.push _) hne hn fun h' tk acc c' hk hS hi => ?_
  have new : ObjOk X.prog X.w (upd H1 (s1.heap.push (revObj a ((its.toArray.size : Int) - 1))).objs.size (.lst xs.reverse)) h' (s1.heap.push (revObj a ((its.toArray.size : Int) - 1))).objs.size (.lst xs.reverse) :=
    ⟨by rw [List.length_reverse]; exact hz, acc.toList, c', vals_rev rv hi, hS⟩
  have I3 := I2.turnedNew (t' := tk) (h' := h') (ch := [s1.heap.objs.size]) (T := (s1.heap.push (revObj a ((its.toArray.size : Int) - 1))).objs.size) (ob := .lst xs.reverse) (fun b o hb e => hk b o (fun z => hb (by simp [z])) e) (fun b hb => by rw [List.mem_singleton.mp hb]; exact fp) (Nat.le_refl _) new
  exact ⟨V.ref (s1.heap.push (revObj a ((its.toArray.size : Int) - 1))).objs.size, _, I3, rfl, q _ (I2.hok.fresh (Nat.le_refl _))⟩
end
end L2.EV
set_option Elab.async false
set_option linter.all false
set_option maxRecDepth 100000
set_option maxHeartbeats 4000000
namespace L2.K03
open PySem PySem.Spec PyProof.Rows L2.EV L2
/-! ### rearranged lists -/
theorem Mans.cons' {H : Hp} {v : V} {vs : List V} {m : Mn} {ms : List Mn} (h : ManAt H v m) (g : Mans H vs ms) : Mans H (v :: vs) (m :: ms) := (Mans.one h).app g
theorem mans_perm {H : Hp} {ws ys : List V} (pm : ws.Perm ys) : ∀ {ms : List Mn}, Mans H ws ms → ∃ ns, Mans H ys ns ∧ ns.Perm ms := by
  induction pm with
  | nil => exact fun {ms} h => ⟨ms, h, .refl _⟩
  | cons v _ ih =>
    intro ms h
    match ms, h with
    | [], h => exact absurd h.1 (by simp)
    | m :: ms, h =>
      obtain ⟨h1, h2⟩ := h.cons_inv
      obtain ⟨ns, g1, g2⟩ := ih h2
      exact ⟨m :: ns, g1.cons' h1, g2.cons m⟩
  | swap u v l =>
    intro ms h
    match ms, h with
    | [], h => exact absurd h.1 (by simp)
    | [m], h => exact absurd h.1 (by simp)
    | m :: m2 :: ms, h =>
      obtain ⟨h1, h2⟩ := h.cons_inv
      obtain ⟨h2, h3⟩ := h2.cons_inv
      exact ⟨m2 :: m :: ms, (h3.cons' h1).cons' h2, .swap m m2 ms⟩
  | trans _ _ i1 i2 =>
    intro ms h
    obtain ⟨ns, a1, a2⟩ := i1 h
    obtain ⟨ks, b1, b2⟩ := i2 a1
    exact ⟨ks, b1, b2.trans a2⟩
theorem wds_perm {ys : List V} {bs : List Str} (pm : ys.Perm (bs.map V.str)) : ∃ cs : List Str, ys = cs.map V.str ∧ cs.Perm bs := by
  let un : V → Str := fun v => match v with | .str x => x | _ => ""
  refine ⟨ys.map un, ?_, ?_⟩
  · rw [List.map_map]
    have : ∀ y ∈ ys, (V.str ∘ un) y = y := fun y hy => by
      obtain ⟨z, _, e⟩ := List.mem_map.mp (pm.mem_iff.mp hy)
      rw [← e]
      rfl
    exact ((List.map_congr_left (g := id) this).trans (List.map_id _)).symm
  · have := pm.map un
    rw [List.map_map] at this
    have e : bs.map (un ∘ V.str) = bs := by
      have : (un ∘ V.str) = id := rfl
      rw [this, List.map_id]
    rw [e] at this
    exact this
/-! ### the data of three lists -/
abbrev d3 (ms : List Mn) (bs es : List Str) : PyData := .list [dMs ms, dWs bs, dWs es]
theorem shaped3 {ms : List Mn} {bs es : List Str} (o : MOk ms bs es) : SeqAt.shaped (d3 ms bs es) = true := by
  have dep : ∀ ws : List Str, PyData.depthAll (ws.map PyData.str) = 0 := fun ws => by
    induction ws with
    | nil => rfl
    | cons x ws ih =>
      show PyData.depthAll (PyData.str x :: ws.map PyData.str) = 0
      rw [PyData.depthAll, ih]
      simp [PyData.depth]
  unfold SeqAt.shaped
  have e : PyData.depth (d3 ms bs es) ≤ 5 := by
    show max (PyData.depthAll (ms.map dMn) + 1) (max (PyData.depthAll (bs.map PyData.str) + 1) (max (PyData.depthAll (es.map PyData.str) + 1) _)) + 1 ≤ 5
    rw [dep, dep]
    have := (lay_mns ms o.m).2
    show max _ (max (0 + 1) (max (0 + 1) 0)) + 1 ≤ 5
    omega
  show ((PyData.canLayAll0 (ms.map dMn) && (PyData.canLayAll0 (bs.map PyData.str) && (PyData.canLayAll0 (es.map PyData.str) && true))) && _) = true
  rw [(lay_mns ms o.m).1, lay_words bs o.b, lay_words es o.e, decide_eq_true (show PyData.depth (d3 ms bs es) ≤ 64 by omega)]
  rfl
theorem eqv3 (ms : List Mn) (bs es : List Str) : PyData.eqv (d3 ms bs es) (d3 ms bs es) = true := by
  show PyData.eqv (.list [dMs ms, dWs bs, dWs es]) (.list [dMs ms, dWs bs, dWs es]) = true
  rw [PyData.eqv]
  rw [PySem.W.eqv_all_cons, PySem.W.eqv_all_cons, PySem.W.eqv_all_cons, eqv_dMs, eqv_dWs, eqv_dWs, decide_eq_true rfl, decide_eq_true rfl, decide_eq_true rfl]
  rfl
theorem dp3 {K : PySem.W.Frag} {H : Hp} {a q1 q2 q3 : Addr} {ys : List V} {ms : List Mn} {bs es : List Str} (h : H a = some (.lst [.ref q1, .ref q2, .ref q3])) (h1 : H q1 = some (.lst ys)) (hM : Mans H ys ms) (h2 : H q2 = some (.lst (bs.map V.str))) (h3 : H q3 = some (.lst (es.map V.str))) : Dp K H (.ref a) (d3 ms bs es) :=
  .lst (SqL.of h) (.cons (.lst (SqL.of h1) hM.dp) (.cons (.lst (SqL.of h2) (dp_words bs)) (.cons (.lst (SqL.of h3) (dp_words es)) .nil)))
theorem cut_one (xs : List V) (i : Nat) : xs.take i ++ cutV xs (some (i : Int)) (some ((i + 1 : Nat) : Int)) = xs.take (i + 1) := by
  unfold cutV
  rw [HT.sIx_nat, HT.sIx_nat]
  by_cases h : i < xs.length
  · rw [Nat.min_eq_left (by omega), Nat.min_eq_left (by omega), show i + 1 - i = 1 by omega]
    have e1 : (xs.drop i).take 1 = [xs[i]] := by rw [List.drop_eq_getElem_cons h]; rfl
    have e2 : xs.take (i + 1) = xs.take i ++ [xs[i]] := by rw [List.take_succ, List.getElem?_eq_getElem h]; rfl
    rw [e1, e2]
  · rw [Nat.min_eq_right (by omega), Nat.min_eq_right (by omega), Nat.sub_self, List.take_zero, List.append_nil, List.take_of_length_le (by omega), List.take_of_length_le (by omega)]
theorem cut_one_len (xs : List V) (i : Nat) : (cutV xs (some (i : Int)) (some ((i + 1 : Nat) : Int))).length ≤ 1 := by
  unfold cutV
  rw [HT.sIx_nat, HT.sIx_nat, List.length_take]
  omega
/-! ### a purse's manual is right -/
abbrev sRt : Stmt := top 56
abbrev nRt : List Str := ["_law_purse_here", "_law_world_here", "_law_handed", "_law_before", "_law_some_here", "_law_made", "_law_told_here", "_law_rows", "_law_firsts", "_law_turn", "_law_grown", "_law_twin"]
theorem scRt : FnScope nRt ["_law_purse_here"] (defScope sRt) := ⟨rfl, rfl, rfl, by decide +kernel, rfl, by decide +kernel, by decide +kernel⟩
def spRt : Sp := fun vs H Q _ => ∃ (p : Addr) (n : Nat), vs = [.ref p] ∧ PurseAt H p n ∧ n < 2 ^ 36 ∧ ∀ H', Old p H H' → PurseAt H' p (n + 2000) → Q (.bl true) H'
abbrev rLi (K : PySem.W.Frag) : List V → Hp → VK → Prop := fun xs H Q => ∃ p ys, xs = [.ref p] ∧ (SqL K H p ys ∨ SqT K H p ys) ∧ ∀ l, H l = none → Q (.ref l) (upd H l (.lst ys))
/-- all that _law_right calls -/
structure Rs (P : Program) (w : World) (K : PySem.W.Frag) (mg : Str → Option Value) (base : Heap) : Prop where
  C : Mc K
  M : My K
  N : NoNe K
  O : OwnE P w K mg base
  G : GotC P w K mg base
  GK : GotCK P w K mg base
  D : Got P w K mg base 2 "_law_draw" ["_law_purse_here", "_law_many"] spDraw
  Wo : Got P w K mg base 6 "_law_world" pWorld spWorld
  S : Got P w K mg base 3 "_law_shuffled" ["_law_purse_here", "_law_some_here"] spShuf
  Al : Got P w K mg base 7 "_law_all_right" pAl (spAl K)
  GM : GotM P w K mg base 1 "manners" ["self"] (spMm K)
  GB : GotM P w K mg base 1 "beginnings" ["self"] (spMb K)
  GE : GotM P w K mg base 1 "ends" ["self"] (spMe K)
  RK : GotK P w K mg base (L2.CX P w) 4 "rooms_of" ["manual"] ["manual"] id (spRO K)
  JK : GotK P w K mg base (L2.CX P w) 4 "jobs_of" ["manual"] ["manual"] id (spJO K)
  X : Got P w K mg base 6 "_law_exact" pEx (spEx 5)
  Ul : Got P w K mg base 7 "_law_unlike_right" pUl (spUl K)
  Ot : Got P w K mg base 4 "_law_others" pOt spOt
  Ar : Got P w K mg base 10 "_law_at_right" pAr (spAr K)
  Rf : Got P w K mg base 10 "_law_refused_right" pRf (spRf K)
  mL : mg "list" = none
  mR : mg "range" = none
  mS : mg "sorted" = none
  mRv : mg "reversed" = none
section
variable {P : Program} {w : World} {K : PySem.W.Frag} {mg : Str → Option Value} {base : Heap} {f : Addr} {fd : FuncData}
theorem ok_rt (F : FnP K "_law_right" sRt f fd) (R : Rs P w K mg base) : FnOk P w K mg base CX0 11 f fd ["_law_purse_here"] spRt := by
  refine F.ok scRt (fun vs H Q E h => ?_) (fun cdv A outer s H vs Q E hr h => ?_)
  · obtain ⟨p, n, rfl, _⟩ := h
    rfl
  · obtain ⟨p, n, rfl, hp, hn, q⟩ := h
    have hu := hr.units
    have hr1 := hr.mono (show 1 ≤ 10 by decide)
    have hr2 := hr.mono (show 2 ≤ 10 by decide)
    have hr6 := hr.mono (show 6 ≤ 10 by decide)
    refine ⟨_, PSs.nox (pss_cons (ps_set (i := 1) scRt.nd rfl (by first | exact Or.inl rfl | exact Or.inr rfl) (pe_got R.Wo hr (pa_cons (pv 0) (pa_cons (pe_op op_add pe_int (pe_got R.D hr (pa_cons (pv 0) (pa_cons pe_int pa_nil)))) (pa_cons (pe_op op_add pe_int (pe_got R.D hr (pa_cons (pv 0) (pa_cons pe_int pa_nil)))) (pa_cons (pe_got R.D hr (pa_cons (pv 0) (pa_cons pe_int pa_nil))) pa_nil))))))
      (pss_cons (ps_set (i := 2) scRt.nd rfl (by first | exact Or.inl rfl | exact Or.inr rfl) (pe_lst (pa_cons (pe_got R.S hr (pa_cons (pv 0) (pa_cons (pe_ix ix_list (pv 1) pe_int (fun _ _ => rfl)) pa_nil))) (pa_cons (pe_got R.S hr (pa_cons (pv 0) (pa_cons (pe_ix ix_list (pv 1) pe_int (fun _ _ => rfl)) pa_nil))) (pa_cons (pe_got R.S hr (pa_cons (pv 0) (pa_cons (pe_ix ix_list (pv 1) pe_int (fun _ _ => rfl)) pa_nil))) pa_nil)))))
      (pss_cons (ps_setLc (i := 3) (own := [("_law_some_here", 4)]) (g := gName 4) (tt := tYes) (te := tCB (rLi K) (tCons (tVar 4) tNil)) (by rfl) scRt.nd rfl rfl (by rfl) (pi_list (pv 2)) (blkOk_by (own := [("_law_some_here", 4)]) (N := nRt) (sc := defScope sRt) (by decide +kernel)) (fun _ _ _ _ _ => pg_name (i := 4) scRt.nd rfl (Or.inl rfl)) (fun _ _ _ _ _ => pts_nil) (fun _ _ _ _ _ => pe_callTy call_list_of (by rfl) R.mL (by decide +kernel) (pa_cons (pv 4) pa_nil)))
      (pss_cons (ps_set (i := 5) scRt.nd rfl (by first | exact Or.inl rfl | exact Or.inr rfl) (pe_man R.G hr6 (pa_cons (pe_ix ix_list (pv 2) pe_int (fun _ _ => rfl)) (pa_cons (pe_ix ix_list (pv 2) pe_int (fun _ _ => rfl)) (pa_cons (pe_ix ix_list (pv 2) pe_int (fun _ _ => rfl)) pa_nil)))))
      (pss_cons (ps_if (PW.pt (pw_or (pt_cmpR (op_neD hu) (pv 2) (pv 3) (nomark _)) (pw_or1 (pt_not (pt_val (pe_got R.Al hr (pa_cons (pv 5) (pa_cons (pv 1) pa_nil)))))))) (pss_one (ps_ret pe_bl)) pss_nil)
      (pss_cons (ps_expr (pe_bm PySem.F.plainAttrs_list PySem.F.slot_list_append PySem.F.type_list_append mt_append (pe_ix ix_list (pv 2) pe_int (fun _ _ => rfl)) (pa_cons (pl_tup (pla_cons pl_str (pla_cons pl_str (pla_cons pl_str (pla_cons (pl_tup (pla_cons pl_str (pla_cons pl_int pla_nil))) pla_nil))))) pa_nil)))
      (pss_cons (ps_expr (pe_bm PySem.F.plainAttrs_list PySem.F.slot_list_append PySem.F.type_list_append mt_append (pe_ix ix_list (pv 2) pe_int (fun _ _ => rfl)) (pa_cons pe_str pa_nil)))
      (pss_cons (ps_expr (pe_bm0 PySem.F.plainAttrs_list PySem.F.slot_list_reverse PySem.F.type_list_reverse mt_reverse (pe_ix ix_list (pv 2) pe_int (fun _ _ => rfl))))
      (pss_cons (ps_for PassesOwn.never rfl (pi_tup (pe_tup (pa_cons (pe_gotM0 R.GM R.C hr (pv 5)) (pa_cons (pe_gotM0 R.GB R.C hr (pv 5)) (pa_cons (pe_gotM0 R.GE R.C hr (pv 5)) (pa_cons (pe_gotK R.RK hr passF (pk_cons (pv 5) pk_nil)) (pa_cons (pe_gotK R.JK hr passF (pk_cons (pv 5) pk_nil)) pa_nil))))))) (pg_name (i := 6) scRt.nd rfl (by first | exact Or.inl rfl | exact Or.inr rfl)) (pss_cons (ps_expr (pe_bm0 PySem.F.plainAttrs_list PySem.F.slot_list_reverse PySem.F.type_list_reverse mt_reverse (pv 6))) (pss_one (ps_expr (pe_bm PySem.F.plainAttrs_list PySem.F.slot_list_append PySem.F.type_list_append mt_append (pv 6) (pa_cons pe_str pa_nil))))))
      (pss_cons (ps_if (pt_not (pt_val (pe_got R.Al hr (pa_cons (pv 5) (pa_cons (pv 1) pa_nil))))) (pss_one (ps_ret pe_bl)) pss_nil)
      (pss_cons (ps_par (i := 7) (j := 8) rfl scRt.nd rfl rfl (by decide) rfl rfl (pa_cons (pe_lst pa_nil) (pa_cons (pe_lst pa_nil) pa_nil)) (by rfl))
      (pss_cons (ps_for PassesOwn.never rfl (pi_range1 (by rfl) R.mR (pa_cons pe_int pa_nil)) (pg_name (i := 9) scRt.nd rfl (by first | exact Or.inl rfl | exact Or.inr rfl)) (pss_cons (ps_set (i := 10) scRt.nd rfl (by first | exact Or.inl rfl | exact Or.inr rfl) (pe_man R.G hr6 (pa_cons (pv 7) (pa_cons (pv 8) (pa_cons (pv 8) pa_nil)))))
        (pss_cons (ps_if (pt_cmpR (op_neD hu) (pe_lst (pa_cons (pe_gotM0 R.GM R.C hr (pv 10)) (pa_cons (pe_gotM0 R.GB R.C hr (pv 10)) (pa_cons (pe_gotM0 R.GE R.C hr (pv 10)) pa_nil)))) (pe_lst (pa_cons (pe_callB (cr_sortedDp hu) (by rfl) R.mS (by decide +kernel) (pa_cons (pv 7) pa_nil)) (pa_cons (pe_callB (cr_sortedDp hu) (by rfl) R.mS (by decide +kernel) (pa_cons (pv 8) pa_nil)) (pa_cons (pe_callB (cr_sortedDp hu) (by rfl) R.mS (by decide +kernel) (pa_cons (pv 8) pa_nil)) pa_nil)))) (nomark _)) (pss_one (ps_ret pe_bl)) pss_nil)
        (pss_cons (ps_expr (pe_bm PySem.F.plainAttrs_list PySem.F.slot_list_extend PySem.F.type_list_extend mt_extend (pv 7) (pa_cons (pe_slice sl_list (pe_ix ix_list (pv 1) pe_int (fun _ _ => rfl)) (po_some (pv 9)) (po_some (pe_op op_add (pv 9) pe_int))) pa_nil))) (pss_one (ps_expr (pe_bm PySem.F.plainAttrs_list PySem.F.slot_list_extend PySem.F.type_list_extend mt_extend (pv 8) (pa_cons (pe_slice sl_list (pe_ix ix_list (pv 1) pe_int (fun _ _ => rfl)) (po_some (pv 9)) (po_some (pe_op op_add (pv 9) pe_int))) pa_nil))))))))
      (pss_cons (ps_set (i := 11) scRt.nd rfl (by first | exact Or.inl rfl | exact Or.inr rfl) (pe_manK R.GK hr6 (pk_cons (pe_lstRev rfl (by rfl) R.mL (by rfl) R.mRv (pe_ix ix_list (pv 1) pe_int (fun _ _ => rfl))) (pk_cons (pe_lstRev rfl (by rfl) R.mL (by rfl) R.mRv (pe_ix ix_list (pv 1) pe_int (fun _ _ => rfl))) (pk_cons (pe_lstRev rfl (by rfl) R.mL (by rfl) R.mRv (pe_ix ix_list (pv 1) pe_int (fun _ _ => rfl))) pk_nil)))))
      (pss_cons (ps_for PassesOwn.never rfl (pi_tup (pe_tup (pa_cons (pe_cmpR (op_eqM R.O R.M hr1) (pv 5) (pv 11) (nomark _)) (pa_cons (pe_cmpR (op_eqM R.O R.M hr1) (pv 11) (pv 5) (nomark _)) (pa_cons (pe_cmpR (op_eqM R.O R.M hr1) (pv 5) (pv 5) (nomark _)) (pa_cons (pe_not (pe_cmpR (op_neM R.O R.M R.N hr2) (pv 5) (pv 11) (nomark _))) pa_nil)))))) (pg_name (i := 6) scRt.nd rfl (by first | exact Or.inl rfl | exact Or.inr rfl)) (pss_one (ps_if (pt_not (pt_val (pe_got R.X hr (pa_cons (pv 6) (pa_cons pe_bl pa_nil))))) (pss_one (ps_ret pe_bl)) pss_nil)))
      (pss_cons (ps_if (PW.pt (pw_or (pt_not (pt_val (pe_got R.Ul hr (pa_cons (pv 5) (pa_cons (pv 1) (pa_cons (pe_got R.Ot hr (pa_cons (pv 0) (pa_cons (pv 1) pa_nil))) pa_nil)))))) (pw_or1 (pt_not (pt_val (pe_got R.Ar hr (pa_cons (pv 5) (pa_cons (pv 1) pa_nil)))))))) (pss_one (ps_ret pe_bl)) pss_nil)
      (pss_one (ps_ret (pe_and (pe_got R.Rf hr (pa_cons (pv 0) (pa_cons (pv 5) (pa_cons (pv 1) pa_nil)))) (pe_one (pe_got R.Al hr (pa_cons (pv 5) (pa_cons (pv 1) pa_nil)))))))))))))))))))))), ?_⟩
    refine ⟨_, rfl, _, rfl, p, 4, n, rfl, ⟨by decide, by decide⟩, hp, by omega, fun c1 H1 a1 b1 p1 u1 => ⟨_, _, rfl, rfl, ?_⟩⟩
    refine ⟨_, rfl, p, 4, n + 1, rfl, ⟨by decide, by decide⟩, p1, by omega, fun c2 H2 a2 b2 p2 u2 => ⟨_, _, rfl, rfl, ?_⟩⟩
    refine ⟨_, rfl, p, 17, n + 1 + 1, rfl, ⟨by decide, by decide⟩, p2, by omega, fun c3 H3 a3 b3 p3 u3 => ?_⟩
    obtain ⟨c1, rfl⟩ := Int.eq_ofNat_of_zero_le a1
    obtain ⟨c2, rfl⟩ := Int.eq_ofNat_of_zero_le a2
    obtain ⟨c3, rfl⟩ := Int.eq_ofNat_of_zero_le a3
    have o3 : Old p H H3 := (Old.of_but u1).trans ((Old.of_but u2).trans (.of_but u3))
    have ei1 : (1 : Int) + (c1 : Int) = ((1 + c1 : Nat) : Int) := by omega
    have ei2 : (1 : Int) + (c2 : Int) = ((1 + c2 : Nat) : Int) := by omega
    refine ⟨p, 1 + c1, 1 + c2, c3, n + 1 + 1 + 1, (by show [V.ref p, V.int (1 + (c1 : Int)), V.int (1 + (c2 : Int)), V.int (c3 : Int)] = _; rw [ei1, ei2]), ⟨by omega, by omega⟩, ⟨by omega, by omega⟩, by omega, p3, by omega, fun a ms bs es rs js H4 lrs ljs W hw na p4 o4 fa => ?_⟩
    obtain ⟨lm, lb, le, lr, lj, ws, h1, h2, h3, h4, h5, h6, h7⟩ := id hw
    have nm : lm ≠ p := not_purse p4 h2 h3.no_int
    have nb : lb ≠ p := not_purse p4 h4 (no_int_strs _)
    have ne : le ≠ p := not_purse p4 h5 (no_int_strs _)
    have lms : ms.length ≤ 20 := W.ml
    have wlen : ws.length = ms.length := h3.1
    have lbs : bs.length ≤ 8 := Nat.le_trans (nodup_le _ _ W.bn W.bo) W.base.r.2
    have les : es.length ≤ 8 := Nat.le_trans (nodup_le _ _ W.en W.eo) W.base.r.2
    have lrs8 := W.base.r.2
    have ljs8 := W.base.j.2
    have om : MOk ms bs es := ⟨fun m hm => (W.mo m hm).ok W.base, fun x hx => W.base.rw x (W.bo x hx), fun x hx => W.base.rw x (W.eo x hx)⟩
    have oms : MOk (srtM ms) (srtW bs) (srtW es) := om.srt
    have few : Few ms bs es := ⟨by omega, by omega, by omega⟩
    obtain ⟨op4, hop4⟩ := p4.some
    refine ⟨_, rfl, _, rfl, a, _, _, .ref lm, rfl, rfl, SqL.of h1, atI_nat (j := 0) rfl, p, lm, ws, n + 1 + 1 + 1 + 700, rfl, h2, nm, by omega, p4, by omega, fun q1 ys1 H5 pm1 g5 nq1 p5 o5 f5 => ?_⟩
    refine ⟨_, rfl, _, rfl, a, _, _, .ref lb, rfl, rfl, SqL.of (o5 _ _ na h1), atI_nat (j := 1) rfl, p, lb, _, _, rfl, o5 _ _ nb h4, nb, by rw [List.length_map]; omega, p5, by omega, fun q2 ys2 H6 pm2 g6 nq2 p6 o6 f6 => ?_⟩
    have o46 := o5.trans o6
    refine ⟨_, rfl, _, rfl, a, _, _, .ref le, rfl, rfl, SqL.of (o46 _ _ na h1), atI_nat (j := 2) rfl, p, le, _, _, rfl, o46 _ _ ne h5, ne, by rw [List.length_map]; omega, p6, by rw [List.length_map]; omega, fun q3 ys3 H7 pm3 g7 nq3 p7 o7 f7 => ?_⟩
    have o47 := o46.trans o7
    rw [List.length_map, List.length_map] at p7
    refine ⟨(by show 3 ≤ sizeLine; decide), fun hd hhd => ?_⟩
    obtain ⟨H8, e8, s8, g8⟩ : ∃ H8, H8 = upd H7 hd (.lst [.ref q1, .ref q2, .ref q3]) ∧ Same H7 H8 ∧ H8 hd = some (.lst [.ref q1, .ref q2, .ref q3]) := ⟨_, rfl, same_upd hhd, upd_same⟩
    rw [← e8]
    clear e8
    obtain ⟨ns, hns, pns⟩ := mans_perm pm1.symm h3
    obtain ⟨cs, rfl, pcs⟩ := wds_perm pm2
    obtain ⟨ds, rfl, pds⟩ := wds_perm pm3
    have o48 : Old p H4 H8 := o47.trans (.of_same s8)
    have g1 : H8 q1 = some (.lst ys1) := s8 _ _ (o7 _ _ nq1 (o6 _ _ nq1 g5))
    have g2 : H8 q2 = some (.lst (cs.map V.str)) := s8 _ _ (o7 _ _ nq2 g6)
    have g3 : H8 q3 = some (.lst (ds.map V.str)) := s8 _ _ g7
    have hM8 : Mans H8 ys1 ns := hns.old p4 o48
    have p8 := p7.same s8
    have o8 : Old p H H8 := o3.trans (o4.trans o48)
    have w1 : H8 a = _ := o48 _ _ na h1
    have w2 := o48 _ _ nm h2
    have w3 : Mans H8 ws ms := h3.old p4 o48
    have hw8 : WdAt H8 a ms bs es rs js := hw.old p4 o48
    -- unlike addresses
    have x21 : q2 ≠ q1 := fun z => by rw [z, g5] at f6; cases f6
    have x31 : q3 ≠ q1 := fun z => by rw [z, o6 _ _ nq1 g5] at f7; cases f7
    have x32 : q3 ≠ q2 := fun z => by rw [z, g6] at f7; cases f7
    have okn : MOk ns cs ds := ⟨fun m hm => om.m m (pns.mem_iff.mp hm), fun y hy => om.b y (pcs.mem_iff.mp hy), fun y hy => om.e y (pds.mem_iff.mp hy)⟩
    have lns : ns.length ≤ 20 := by rw [pns.length_eq]; exact lms
    have lcs : cs.length ≤ 8 := by rw [pcs.length_eq]; exact lbs
    have lds : ds.length ≤ 8 := by rw [pds.length_eq]; exact les
    -- the copies
    refine ⟨_, rfl, hd, rfl, ⟨_, SqL.of g8⟩, fun D hD => ?_⟩
    let con : Nat → List V := fun i => match i with | 0 => ys1 | 1 => cs.map V.str | _ => ds.map V.str
    refine lc_list (K := K) (a := hd) (xs := [.ref q1, .ref q2, .ref q3]) (fun i H' => ∃ zs : List Addr, Same H8 H' ∧ H' D = some (.lst (zs.map V.ref)) ∧ zs.length = i ∧ ∀ j z, zs[j]? = some z → L2.EV.hid H' D z = some (.lst (con j))) ⟨[], same_upd hD, upd_same, rfl, fun j z hz => by cases hz⟩ (fun i H' _ ⟨_, sA, _⟩ => SqL.of (sA _ _ g8)) ?_ ?_
    · rintro i v H9 hv ⟨zs, sA, gD, lz, hz⟩
      have li : i < 3 := (List.getElem?_eq_some_iff.mp hv).1
      obtain ⟨b, rfl, gb⟩ : ∃ b, v = .ref b ∧ H8 b = some (.lst (con i)) := by
        match i, hv with
        | 0, hv => cases hv; exact ⟨q1, rfl, g1⟩
        | 1, hv => cases hv; exact ⟨q2, rfl, g2⟩
        | 2, hv => cases hv; exact ⟨q3, rfl, g3⟩
        | k + 3, _ => omega
      refine ⟨rfl, ?_⟩
      dsimp only [tYes]
      rw [if_pos rfl]
      refine ⟨_, rfl, b, _, rfl, .inl (SqL.of (sA _ _ gb)), fun c hc => ?_⟩
      obtain ⟨Ha, e9, s9, g9⟩ : ∃ Ha, Ha = upd H9 c (.lst (con i)) ∧ Same H9 Ha ∧ Ha c = some (.lst (con i)) := ⟨_, rfl, same_upd hc, upd_same⟩
      rw [← e9]
      clear e9
      have nc : c ≠ D := ne_of_new hc gD
      refine ⟨_, s9 _ _ gD, small1000 (by rw [List.length_map]; omega), zs ++ [c], fun d o e => ?_, ?_, by rw [List.length_append]; exact congrArg Nat.succ lz, fun j z hj => ?_⟩
      · rw [upd_ne (ne_of_none e hD)]
        exact s9 _ _ (sA _ _ e)
      · rw [upd_same, List.map_append]
        rfl
      · rw [hid_upd]
        by_cases lj : j < zs.length
        · rw [List.getElem?_append_left lj] at hj
          exact (hid_mono s9) _ _ (hz j z hj)
        · rw [List.getElem?_append_right (by omega)] at hj
          have ej : j = i := by
            have := (List.getElem?_eq_some_iff.mp hj).1
            have : j - zs.length < 1 := this
            omega
          rw [ej, show i - zs.length = 0 by omega] at hj
          rw [ej]
          cases hj
          exact hid_of nc g9
    · rintro H9 ⟨zs, sA, gD, lz, hz⟩
      match zs, lz with
      | [e1, e2, e3], _ =>
      have k1 : H9 e1 = some (.lst ys1) := hid_old _ _ (hz 0 e1 rfl)
      have k2 : H9 e2 = some (.lst (cs.map V.str)) := hid_old _ _ (hz 1 e2 rfl)
      have k3 : H9 e3 = some (.lst (ds.map V.str)) := hid_old _ _ (hz 2 e3 rfl)
      clear hz
      have y1 := sA _ _ g1
      have y2 := sA _ _ g2
      have y3 := sA _ _ g3
      refine ⟨_, rfl, hd, _, _, .ref q1, rfl, rfl, SqL.of (sA _ _ g8), atI_nat (j := 0) rfl, _, rfl, hd, _, _, .ref q2, rfl, rfl, SqL.of (sA _ _ g8), atI_nat (j := 1) rfl, _, rfl, hd, _, _, .ref q3, rfl, rfl, SqL.of (sA _ _ g8), atI_nat (j := 2) rfl, fun x dx hx hdx nx => ?_⟩
      refine madeF y1 (hM8.same sA) y2 y3 okn (by omega) (by omega) (by omega) (pns.nodup_iff.mpr W.mn) (pcs.nodup_iff.mpr W.bn) (pds.nodup_iff.mpr W.en) hx hdx nx fun HA hmF sB => ⟨rfl, ?_⟩
      rw [srtM_eq pns, srtW_eq pcs, srtW_eq pds] at hmF
      have s8A := sA.trans sB
      have hmA := hmF.at
      -- handed and before are alike
      refine ⟨_, rfl, _, rfl, d3 ns cs ds, d3 ns cs ds, dp3 (s8A _ _ g8) (sB _ _ y1) (hM8.same s8A) (sB _ _ y2) (sB _ _ y3), dp3 (sB _ _ gD) (sB _ _ k1) (hM8.same s8A) (sB _ _ k2) (sB _ _ k3), shaped3 okn, shaped3 okn, _, rfl, ?_⟩
      rw [eqv3]
      refine iteF ?_
      refine ⟨_, rfl, _, rfl, x, a, ms, bs, es, rs, js, rfl, hmA, hw8.same s8A, few, fun HB sC => ⟨true, rfl, iteF ?_⟩⟩

      have t8B : Same H8 HB := s8A.trans sC
      have z1 := t8B _ _ g1
      have z2 := t8B _ _ g2
      have z3 := t8B _ _ g3
      have hd1 : hd ≠ q1 := ne_of_new hhd (o7 _ _ nq1 (o6 _ _ nq1 g5))
      have hd2 : hd ≠ q2 := ne_of_new hhd (o7 _ _ nq2 g6)
      have hd3 : hd ≠ q3 := ne_of_new hhd g7
      have lys1 : ys1.length = ns.length := hns.1
      refine ⟨_, rfl, hd, _, _, .ref q1, rfl, rfl, SqL.of (t8B _ _ g8), atI_nat (j := 0) rfl, .inl ⟨rfl, _, SqL.of z1⟩, ?_⟩
      refine ⟨_, val_self rfl, fun zz HB1 s11 l11 => ?_⟩
      replace l11 := l11.same nw_old
      refine ⟨q1, ys1, _, rfl, rfl, s11 _ _ z1, small1000 (by omega), ?_⟩
      obtain ⟨HC, eC, kC, gC⟩ : ∃ HC, HC = upd HB1 q1 (.lst (ys1 ++ [zz])) ∧ (∀ c o, c ≠ q1 → HB1 c = some o → HC c = some o) ∧ HC q1 = some (.lst (ys1 ++ [zz])) := ⟨_, rfl, fun c o n e => (upd_ne n).trans e, upd_same⟩
      rw [← eC]
      clear eC
      refine ⟨_, rfl, hd, _, _, .ref q2, rfl, rfl, SqL.of (kC _ _ hd1 (s11 _ _ (t8B _ _ g8))), atI_nat (j := 1) rfl, .inl ⟨rfl, _, SqL.of (kC _ _ x21 (s11 _ _ z2))⟩, q2, _, _, rfl, rfl, kC _ _ x21 (s11 _ _ z2), small1000 (by rw [List.length_map]; omega), ?_⟩
      obtain ⟨HD, eD, kD, gDD⟩ : ∃ HD, HD = upd HC q2 (.lst (cs.map V.str ++ [.str "zz"])) ∧ (∀ c o, c ≠ q2 → HC c = some o → HD c = some o) ∧ HD q2 = some (.lst (cs.map V.str ++ [.str "zz"])) := ⟨_, rfl, fun c o n e => (upd_ne n).trans e, upd_same⟩
      rw [← eD]
      clear eD
      have z3D : HD q3 = some (.lst (ds.map V.str)) := kD _ _ x32 (kC _ _ x31 (s11 _ _ z3))
      refine ⟨_, rfl, hd, _, _, .ref q3, rfl, rfl, SqL.of (kD _ _ hd2 (kC _ _ hd1 (s11 _ _ (t8B _ _ g8)))), atI_nat (j := 2) rfl, .inl ⟨rfl, _, SqL.of z3D⟩, q3, _, rfl, rfl, z3D, ?_⟩
      obtain ⟨HE, eE, kE⟩ : ∃ HE, HE = upd HD q3 (.lst (ds.map V.str).reverse) ∧ (∀ c o, c ≠ q3 → HD c = some o → HE c = some o) := ⟨_, rfl, fun c o n e => (upd_ne n).trans e⟩
      rw [← eE]
      clear eE
      have KK : ∀ c o, c ≠ q1 → c ≠ q2 → c ≠ q3 → HB c = some o → HE c = some o := fun c o n1 n2 n3 e => kE _ _ n3 (kD _ _ n2 (kC _ _ n1 (s11 _ _ e)))
      have hmE : ManuAt K HE x (srtM ms) (srtW bs) (srtW es) := hmF HE fun c o e nl => KK c o (fun z => nl _ (z ▸ y1)) (fun z => nl _ (z ▸ y2)) (fun z => nl _ (z ▸ y3)) (sC _ _ e)
      have KW : Old p H4 HE := fun c o n e => KK c o (ne_of_none e f5) (ne_of_none (o5 _ _ n e) f6) (ne_of_none (o46 _ _ n e) f7) (t8B _ _ (o48 _ _ n e))
      have hwE : WdAt HE a ms bs es rs js := hw.old p4 KW
      have oE : Old p H HE := o3.trans (o4.trans KW)
      obtain ⟨nE, pE, lnE⟩ : ∃ m, PurseAt HE p m ∧ m ≤ n + 800 := by
        obtain ⟨c, z, t, i, e, r⟩ := p8
        exact ⟨_, ⟨c, z, t, i, KK _ _ (Ne.symm nq1) (Ne.symm nq2) (Ne.symm nq3) (t8B _ _ e), r⟩, by omega⟩
      clear kC kD kE gC gDD z3D KK KW z1 z2 z3 y1 y2 y3 k1 k2 k3 hmF hmA w1 w2 w3
      obtain ⟨dx', fs, hxE, b1', b2', b3'⟩ := hmE.plain
      have few' := few_srt few
      have cE : Same HE HE := fun _ _ e => e
      refine ⟨_, rfl, x, dx', fs, rfl, hxE, b1', x, _, _, _, rfl, hmE, fun t1 us ht1 hus => ?_⟩
      obtain ⟨HE1, e21, s21, g21⟩ : ∃ HE1, HE1 = upd HE t1 (.lst us) ∧ Same HE HE1 ∧ HE1 t1 = some (.lst us) := ⟨_, rfl, same_upd ht1, upd_same⟩
      rw [← e21]
      clear e21
      have c21 := cE.trans s21
      refine ⟨_, rfl, x, dx', fs, rfl, c21 _ _ hxE, b2', x, _, _, _, rfl, hmE.same c21, fun t2 ht2 => ?_⟩
      obtain ⟨HE2, e22, s22, g22⟩ : ∃ HE2, HE2 = upd HE1 t2 (.lst ((srtW bs).map V.str)) ∧ Same HE1 HE2 ∧ HE2 t2 = some (.lst ((srtW bs).map V.str)) := ⟨_, rfl, same_upd ht2, upd_same⟩
      rw [← e22]
      clear e22
      have c22 := c21.trans s22
      refine ⟨_, rfl, x, dx', fs, rfl, c22 _ _ hxE, b3', x, _, _, _, rfl, hmE.same c22, fun t3 ht3 => ?_⟩
      obtain ⟨HE3, e23, s23, g23⟩ : ∃ HE3, HE3 = upd HE2 t3 (.lst ((srtW es).map V.str)) ∧ Same HE2 HE3 ∧ HE3 t3 = some (.lst ((srtW es).map V.str)) := ⟨_, rfl, same_upd ht3, upd_same⟩
      rw [← e23]
      clear e23
      have c23 := c22.trans s23
      refine ⟨_, rfl, rfl, .ref x, rfl, .inr ⟨x, _, _, _, rfl, hmE.same c23, few', fun t4 HE4 s24 ht4 g24 => ?_⟩⟩
      have c24 := c23.trans s24
      refine ⟨_, rfl, rfl, .ref x, rfl, .inr ⟨x, _, _, _, rfl, hmE.same c24, few', fun t5 HE5 s25 ht5 g25 => ?_⟩⟩
      have c25 := c24.trans s25
      refine ⟨(by show 5 ≤ sizeLine; decide), fun tp htp => ?_⟩
      obtain ⟨HF, e26, s26, g26⟩ : ∃ HF, HF = upd HE5 tp (.tup [.ref t1, .ref t2, .ref t3, .ref t4, .ref t5]) ∧ Same HE5 HF ∧ HF tp = some (.tup [.ref t1, .ref t2, .ref t3, .ref t4, .ref t5]) := ⟨_, rfl, same_upd htp, upd_same⟩
      rw [← e26]
      clear e26
      have c26 := c25.trans s26
      have fresh : ∀ t ∈ [t1, t2, t3, t4, t5], HE t = none := fun t ht => by
        have bk : ∀ {G : Hp} {b : Addr}, Same HE G → G b = none → HE b = none := fun {G b} s e => by
          cases e' : HE b with
          | none => rfl
          | some o => rw [s _ _ e'] at e; cases e
        simp only [List.mem_cons, List.not_mem_nil, or_false] at ht
        rcases ht with rfl | rfl | rfl | rfl | rfl
        · exact ht1
        · exact bk c21 ht2
        · exact bk c22 ht3
        · exact bk c23 ht4
        · exact bk c24 ht5
      have lists : ∀ t ∈ [t1, t2, t3, t4, t5], ∃ us, HF t = some (.lst us) ∧ us.length ≤ 500 := fun t ht => by
        simp only [List.mem_cons, List.not_mem_nil, or_false] at ht
        rcases ht with rfl | rfl | rfl | rfl | rfl
        · exact ⟨_, (s22.trans (s23.trans (s24.trans (s25.trans s26)))) _ _ g21, by rw [hus.1, (srtM_perm ms).length_eq]; omega⟩
        · exact ⟨_, (s23.trans (s24.trans (s25.trans s26))) _ _ g22, by rw [List.length_map, (srtW_perm bs).length_eq]; omega⟩
        · exact ⟨_, (s24.trans (s25.trans s26)) _ _ g23, by rw [List.length_map, (srtW_perm es).length_eq]; omega⟩
        · refine ⟨_, (s25.trans s26) _ _ g24, ?_⟩
          rw [List.length_map, rooms_srt]
          refine Nat.le_trans (setW_len _) ?_
          have fl : ∀ l : List Mn, (l.flatMap fun m => [m.r, m.s]).length = 2 * l.length := fun l => by
            induction l with
            | nil => rfl
            | cons m l ih => rw [List.flatMap_cons, List.length_append, ih]; show 2 + _ = _; rw [List.length_cons]; omega
          unfold roomsL
          rw [List.length_append, List.length_append, fl]
          omega
        · refine ⟨_, s26 _ _ g25, ?_⟩
          rw [List.length_map, jobs_srt]
          refine Nat.le_trans (setW_len _) ?_
          unfold jobsL
          rw [List.length_map]
          omega
      have ntp : tp ∉ [t1, t2, t3, t4, t5] := fun ht => by
        obtain ⟨us, e, _⟩ := lists tp ht
        rw [g26] at e
        cases e
      refine ⟨tp, rfl, ⟨_, SqT.of g26⟩, ?_⟩
      refine for_tup (K := K) (a := tp) (xs := [.ref t1, .ref t2, .ref t3, .ref t4, .ref t5]) (fun i σ H' => ∃ v6, σ = [some (.ref p), some (.ref a), some (.ref hd), some (.ref D), none, some (.ref x), v6, none, none, none, none, none] ∧ (∀ c o, c ∉ [t1, t2, t3, t4, t5] → HF c = some o → H' c = some o) ∧ ∀ t ∈ [t1, t2, t3, t4, t5], ∃ us, H' t = some (.lst us) ∧ us.length ≤ 500 + i) ⟨none, rfl, fun _ _ _ e => e, lists⟩ (fun i σ H' _ ⟨_, _, kk, _⟩ => SqT.of (kk _ _ ntp g26)) ?_ ?_
      · rintro i v σ H1 hv ⟨v6, rfl, kk, ll⟩
        have li : i < 5 := (List.getElem?_eq_some_iff.mp hv).1
        obtain ⟨t, rfl, mt⟩ : ∃ t, v = .ref t ∧ t ∈ [t1, t2, t3, t4, t5] := by
          have := List.mem_of_getElem? hv
          simp only [List.mem_cons, List.not_mem_nil, or_false] at this ⊢
          rcases this with rfl | rfl | rfl | rfl | rfl
          · exact ⟨_, rfl, .inl rfl⟩
          · exact ⟨_, rfl, .inr (.inl rfl)⟩
          · exact ⟨_, rfl, .inr (.inr (.inl rfl))⟩
          · exact ⟨_, rfl, .inr (.inr (.inr (.inl rfl)))⟩
          · exact ⟨_, rfl, .inr (.inr (.inr (.inr rfl)))⟩
        obtain ⟨us, gt, lu⟩ := ll t mt
        refine ⟨_, rfl, .inl ⟨rfl, _, SqL.of gt⟩, t, us, rfl, rfl, gt, ?_⟩
        refine ⟨_, rfl, .inl ⟨rfl, _, SqL.of upd_same⟩, t, us.reverse, _, rfl, rfl, upd_same, small1000 (by rw [List.length_reverse]; omega), ?_⟩
        refine ⟨_, rfl, fun c o n e => ?_, fun t' mt' => ?_⟩
        · have nc : c ≠ t := fun z => n (z ▸ mt)
          rw [upd_ne nc, upd_ne nc]
          exact kk c o n e
        · by_cases e : t' = t
          · subst e
            exact ⟨_, upd_same, by rw [List.length_append, List.length_reverse]; show us.length + 1 ≤ _; omega⟩
          · obtain ⟨us', g', l'⟩ := ll t' mt'
            exact ⟨us', by rw [upd_ne e, upd_ne e]; exact g', by omega⟩
      · rintro σ HG ⟨v6, rfl, kk, _⟩
        have sEG : Same HE HG := fun c o e => kk c o (fun ht => by rw [fresh c ht] at e; cases e) (c26 _ _ e)
        clear kk fresh lists
        refine ⟨_, rfl, _, rfl, x, a, ms, bs, es, rs, js, rfl, hmE.same sEG, hwE.same sEG, few, fun HH sGH => ⟨true, rfl, iteF ?_⟩⟩
        have sH := sEG.trans sGH

        have cH : Same HH HH := fun _ _ e => e
        refine ⟨(by show 0 ≤ sizeLine; decide), fun r0 hr0 => ?_⟩
        obtain ⟨HI, e31, s31, g31⟩ : ∃ HI, HI = upd HH r0 (.lst []) ∧ Same HH HI ∧ HI r0 = some (.lst []) := ⟨_, rfl, same_upd hr0, upd_same⟩
        rw [← e31]
        clear e31
        have c31 := cH.trans s31
        refine ⟨(by show 0 ≤ sizeLine; decide), fun f0 hf0 => ?_⟩
        obtain ⟨HJ, e32, s32, g32⟩ : ∃ HJ, HJ = upd HI f0 (.lst []) ∧ Same HI HJ ∧ HJ f0 = some (.lst []) := ⟨_, rfl, same_upd hf0, upd_same⟩
        rw [← e32]
        clear e32
        have c32 := c31.trans s32
        refine ⟨_, _, rfl, ?_⟩
        have nrf : r0 ≠ f0 := ne_of_none g31 hf0
        have hfH : HH f0 = none := s31.free hf0
        have hwH := hwE.same sH
        have hmH := hmE.same sH
        obtain ⟨u1, u2, u3, u4, u5, uw, v1, v2, v3, v4, v5, v6', v7⟩ := id hwH
        have uM : ∀ {i : Nat}, MOk (ms.take i) (rs.take i) (rs.take i) := fun {i} => ⟨fun m hm => om.m m (take_mem hm), fun y hy => W.base.rw y (take_mem hy), fun y hy => W.base.rw y (take_mem hy)⟩
        refine ⟨3, rfl, (by decide), (by decide), ?_⟩
        refine for_range (n := 3) (fun i σ H' => ∃ v9 v10, σ = [some (.ref p), some (.ref a), some (.ref hd), some (.ref D), none, some (.ref x), v6, some (.ref r0), some (.ref f0), v9, v10, none] ∧ Same HH H' ∧ H' r0 = some (.lst (uw.take i)) ∧ H' f0 = some (.lst ((rs.take i).map V.str))) ⟨none, none, rfl, c32, s32 _ _ g31, g32⟩ ?_ ?_
        · rintro i σ H1 hi ⟨v9, v10, rfl, sA, gr, gf⟩
          have lmi : (ms.take i).length ≤ 20 := Nat.le_trans (List.length_take_le' _ _) lms
          have lri : (rs.take i).length ≤ 8 := Nat.le_trans (List.length_take_le' _ _) lrs8
          have hMt : Mans H1 (uw.take i) (ms.take i) := (v3.same sA).take i
          have ndr : (rs.take i).Nodup := W.base.rn.sublist (List.take_sublist _ _)
          refine ⟨_, rfl, _, rfl, _, rfl, fun y dy hy1 hd1 ny => ?_⟩
          refine made gr hMt gf gf uM (by omega) (by omega) (by omega) (W.mn.sublist (List.take_sublist _ _)) ndr ndr hy1 hd1 ny fun H2 hm2 s2 => ⟨rfl, ?_⟩
          obtain ⟨dy', fy, hy2, y1', y2', y3'⟩ := hm2.plain
          have b2 : Same H2 H2 := fun _ _ e => e
          refine ⟨_, rfl, y, dy', fy, rfl, hy2, y1', y, _, _, _, rfl, hm2, fun t1 us ht1 hus => ?_⟩
          obtain ⟨H21, e41, s41, g41⟩ : ∃ H21, H21 = upd H2 t1 (.lst us) ∧ Same H2 H21 ∧ H21 t1 = some (.lst us) := ⟨_, rfl, same_upd ht1, upd_same⟩
          rw [← e41]
          clear e41
          have c41 := b2.trans s41
          refine ⟨_, rfl, y, dy', fy, rfl, c41 _ _ hy2, y2', y, _, _, _, rfl, hm2.same c41, fun t2 ht2 => ?_⟩
          obtain ⟨H22, e42, s42, g42⟩ : ∃ H22, H22 = upd H21 t2 (.lst ((srtW (rs.take i)).map V.str)) ∧ Same H21 H22 ∧ H22 t2 = some (.lst ((srtW (rs.take i)).map V.str)) := ⟨_, rfl, same_upd ht2, upd_same⟩
          rw [← e42]
          clear e42
          have c42 := c41.trans s42
          refine ⟨_, rfl, y, dy', fy, rfl, c42 _ _ hy2, y3', y, _, _, _, rfl, hm2.same c42, fun t3 ht3 => ?_⟩
          obtain ⟨H23, e43, s43, g43⟩ : ∃ H23, H23 = upd H22 t3 (.lst ((srtW (rs.take i)).map V.str)) ∧ Same H22 H23 ∧ H23 t3 = some (.lst ((srtW (rs.take i)).map V.str)) := ⟨_, rfl, same_upd ht3, upd_same⟩
          rw [← e43]
          clear e43
          have c43 := c42.trans s43
          refine ⟨(by show 3 ≤ sizeLine; decide), fun t4 ht4 => ?_⟩
          obtain ⟨H24, e44, s44, g44⟩ : ∃ H24, H24 = upd H23 t4 (.lst [.ref t1, .ref t2, .ref t3]) ∧ Same H23 H24 ∧ H24 t4 = some (.lst [.ref t1, .ref t2, .ref t3]) := ⟨_, rfl, same_upd ht4, upd_same⟩
          rw [← e44]
          clear e44
          have c44 := c43.trans s44
          refine ⟨_, rfl, ?_⟩
          dsimp only [tNil]
          refine sortM (SqL.of ((s2.trans c44) _ _ gr)) (hMt.same (s2.trans c44)) fun t5 vs ht5 hvs => ?_
          obtain ⟨H25, e45, s45, g45⟩ : ∃ H25, H25 = upd H24 t5 (.lst vs) ∧ Same H24 H25 ∧ H25 t5 = some (.lst vs) := ⟨_, rfl, same_upd ht5, upd_same⟩
          rw [← e45]
          clear e45
          have c45 := c44.trans s45
          refine ⟨_, rfl, ?_⟩
          dsimp only [tNil]
          refine sortW (SqL.of ((s2.trans c45) _ _ gf)) fun t6 ht6 => ?_
          obtain ⟨H26, e46, s46, g46⟩ : ∃ H26, H26 = upd H25 t6 (.lst ((srtW (rs.take i)).map V.str)) ∧ Same H25 H26 ∧ H26 t6 = some (.lst ((srtW (rs.take i)).map V.str)) := ⟨_, rfl, same_upd ht6, upd_same⟩
          rw [← e46]
          clear e46
          have c46 := c45.trans s46
          refine ⟨_, rfl, ?_⟩
          dsimp only [tNil]
          refine sortW (SqL.of ((s2.trans c46) _ _ gf)) fun t7 ht7 => ?_
          obtain ⟨H27, e47, s47, g47⟩ : ∃ H27, H27 = upd H26 t7 (.lst ((srtW (rs.take i)).map V.str)) ∧ Same H26 H27 ∧ H27 t7 = some (.lst ((srtW (rs.take i)).map V.str)) := ⟨_, rfl, same_upd ht7, upd_same⟩
          rw [← e47]
          clear e47
          have c47 := c46.trans s47
          refine ⟨(by show 3 ≤ sizeLine; decide), fun t8 ht8 => ?_⟩
          obtain ⟨H28, e48, s48, g48⟩ : ∃ H28, H28 = upd H27 t8 (.lst [.ref t5, .ref t6, .ref t7]) ∧ Same H27 H28 ∧ H28 t8 = some (.lst [.ref t5, .ref t6, .ref t7]) := ⟨_, rfl, same_upd ht8, upd_same⟩
          rw [← e48]
          clear e48
          have c48 := c47.trans s48
          refine ⟨d3 (srtM (ms.take i)) (srtW (rs.take i)) (srtW (rs.take i)), d3 (srtM (ms.take i)) (srtW (rs.take i)) (srtW (rs.take i)), dp3 ((s45.trans (s46.trans (s47.trans s48))) _ _ g44) ((s42.trans (s43.trans (s44.trans (s45.trans (s46.trans (s47.trans s48)))))) _ _ g41) (hus.same c48) ((s43.trans (s44.trans (s45.trans (s46.trans (s47.trans s48))))) _ _ g42) ((s44.trans (s45.trans (s46.trans (s47.trans s48)))) _ _ g43), dp3 g48 ((s46.trans (s47.trans s48)) _ _ g45) (hvs.same (s45.trans (s46.trans (s47.trans s48)))) ((s47.trans s48) _ _ g46) (s48 _ _ g47), shaped3 uM.srt, shaped3 uM.srt, _, rfl, ?_⟩
          rw [eqv3]
          refine iteF ?_
          have s28 := s2.trans c48
          have sB := sA.trans s28
          refine ⟨_, rfl, .inl ⟨rfl, _, SqL.of (s28 _ _ gr)⟩, _, rfl, a, _, _, .ref u1, rfl, rfl, SqL.of (sB _ _ v1), atI_nat (j := 0) rfl, _, rfl, _, rfl, _, rfl, _, _, rfl, rfl, _, rfl, u1, uw, rfl, SqL.of (sB _ _ v2), fun o1 ho1 => ?_⟩
          obtain ⟨H29, e49, s49, g49⟩ : ∃ H29, H29 = upd H28 o1 (.lst (cutV uw (some (i : Int)) (some ((i + 1 : Nat) : Int)))) ∧ Same H28 H29 ∧ H29 o1 = some (.lst (cutV uw (some (i : Int)) (some ((i + 1 : Nat) : Int)))) := ⟨_, rfl, same_upd ho1, upd_same⟩
          rw [show cutV uw (some (0 + (i : Int))) (some (0 + (i : Int) + 1)) = cutV uw (some (i : Int)) (some ((i + 1 : Nat) : Int)) from by rw [show (0 + (i : Int)) = (i : Int) by omega, show ((i : Int) + 1) = ((i + 1 : Nat) : Int) by omega], ← e49]
          clear e49
          have c49 := c48.trans s49
          have lo1 := cut_one_len uw i
          have luw : (uw.take i).length ≤ 3 := by rw [List.length_take]; omega
          refine ⟨r0, o1, _, _, rfl, rfl, s49 _ _ (s28 _ _ gr), g49, (by rw [sizeLine_eq]; omega), ?_⟩
          rw [cut_one]
          have s29 := s28.trans s49
          obtain ⟨H30, e30, k30, g30⟩ : ∃ H', H' = upd H29 r0 (.lst (uw.take (i + 1))) ∧ (∀ c o, c ≠ r0 → H29 c = some o → H' c = some o) ∧ H' r0 = some (.lst (uw.take (i + 1))) := ⟨_, rfl, fun c o n e => (upd_ne n).trans e, upd_same⟩
          rw [← e30]
          clear e30
          have sC30 : Same HH H30 := fun c o e => k30 _ _ (ne_of_none e hr0) (s29 _ _ (sA _ _ e))
          have gf30 := k30 _ _ (Ne.symm nrf) (s29 _ _ gf)
          refine ⟨_, rfl, .inl ⟨rfl, _, SqL.of gf30⟩, _, rfl, a, _, _, .ref u4, rfl, rfl, SqL.of (sC30 _ _ v1), atI_nat (j := 3) rfl, _, rfl, _, rfl, _, rfl, _, _, rfl, rfl, _, rfl, u4, _, rfl, SqL.of (sC30 _ _ v6'), fun o2 ho2 => ?_⟩
          obtain ⟨H31, e50, s50, g50⟩ : ∃ H31, H31 = upd H30 o2 (.lst (cutV (rs.map V.str) (some (i : Int)) (some ((i + 1 : Nat) : Int)))) ∧ Same H30 H31 ∧ H31 o2 = some (.lst (cutV (rs.map V.str) (some (i : Int)) (some ((i + 1 : Nat) : Int)))) := ⟨_, rfl, same_upd ho2, upd_same⟩
          rw [show cutV (rs.map V.str) (some (0 + (i : Int))) (some (0 + (i : Int) + 1)) = cutV (rs.map V.str) (some (i : Int)) (some ((i + 1 : Nat) : Int)) from by rw [show (0 + (i : Int)) = (i : Int) by omega, show ((i : Int) + 1) = ((i + 1 : Nat) : Int) by omega], ← e50]
          clear e50
          have lo2 := cut_one_len (rs.map V.str) i
          refine ⟨f0, o2, _, _, rfl, rfl, s50 _ _ gf30, g50, (by rw [List.length_map, sizeLine_eq]; omega), ?_⟩
          rw [show (rs.take i).map V.str ++ cutV (rs.map V.str) (some (i : Int)) (some ((i + 1 : Nat) : Int)) = (rs.take (i + 1)).map V.str from by rw [List.map_take, cut_one, List.map_take]]
          refine ⟨_, _, rfl, fun c o e => ?_, ?_, upd_same⟩
          · rw [upd_ne (ne_of_none e hfH)]
            exact s50 _ _ (sC30 _ _ e)
          · rw [upd_ne nrf]
            exact s50 _ _ g30
        · rintro σ H1 ⟨v9, v10, rfl, sA, _, _⟩
          have c1 : Same HH H1 := sA
          refine ⟨_, rfl, a, _, _, .ref u3, rfl, rfl, SqL.of (c1 _ _ v1), atI_nat (j := 2) rfl, u3, _, rfl, SqL.of (c1 _ _ v5), fun e0 he0 => ?_⟩
          obtain ⟨H61, e61, s61, g61⟩ : ∃ H61, H61 = upd H1 e0 (.lst (es.reverse.map V.str)) ∧ Same H1 H61 ∧ H61 e0 = some (.lst (es.reverse.map V.str)) := ⟨_, rfl, same_upd he0, upd_same⟩
          rw [← List.map_reverse, ← e61]
          clear e61
          have c61 := c1.trans s61
          refine ⟨_, rfl, a, _, _, .ref u1, rfl, rfl, SqL.of (c61 _ _ v1), atI_nat (j := 0) rfl, u1, _, rfl, SqL.of (c61 _ _ v2), fun m0 hm0 => ?_⟩
          obtain ⟨H62, e62, s62, g62⟩ : ∃ H62, H62 = upd H61 m0 (.lst uw.reverse) ∧ Same H61 H62 ∧ H62 m0 = some (.lst uw.reverse) := ⟨_, rfl, same_upd hm0, upd_same⟩
          rw [← e62]
          clear e62
          have c62 := c61.trans s62
          refine ⟨_, rfl, a, _, _, .ref u2, rfl, rfl, SqL.of (c62 _ _ v1), atI_nat (j := 1) rfl, u2, _, rfl, SqL.of (c62 _ _ v4), fun b0 hb0 => ?_⟩
          obtain ⟨H63, e63, s63, g63⟩ : ∃ H63, H63 = upd H62 b0 (.lst (bs.reverse.map V.str)) ∧ Same H62 H63 ∧ H63 b0 = some (.lst (bs.reverse.map V.str)) := ⟨_, rfl, same_upd hb0, upd_same⟩
          rw [← List.map_reverse, ← e63]
          clear e63
          have c63 := c62.trans s63
          obtain ⟨rms, hr', pr⟩ := mans_perm (List.reverse_perm uw).symm (v3.same c63)
          have pb := List.reverse_perm bs
          have pe' := List.reverse_perm es
          refine ⟨rfl, fun y dy hy hdy ny => ?_⟩
          show spIn K [.ref y, .ref m0, .ref b0, .ref e0] _ _ _
          refine made (s63 _ _ g62) hr' g63 ((s62.trans s63) _ _ g61) ⟨fun m hm => om.m m (pr.mem_iff.mp hm), fun z hz => om.b z (pb.mem_iff.mp hz), fun z hz => om.e z (pe'.mem_iff.mp hz)⟩ (by rw [pr.length_eq]; omega) (by rw [pb.length_eq]; omega) (by rw [pe'.length_eq]; omega) (pr.nodup_iff.mpr W.mn) (pb.nodup_iff.mpr W.bn) (pe'.nodup_iff.mpr W.en) hy hdy ny fun HK hmK sK => ⟨rfl, ?_⟩
          rw [srtM_eq pr, srtW_eq pb, srtW_eq pe'] at hmK
          have cK := c63.trans sK
          have hmx := hmH.same cK
          have d1 : decide (srtM ms = srtM ms ∧ srtW bs = srtW bs ∧ srtW es = srtW es) = true := decide_eq_true ⟨rfl, rfl, rfl⟩
          refine ⟨_, rfl, _, rfl, x, _, _, _, rfl, hmx, oms, .inr ⟨y, _, _, _, rfl, hmK, oms, ?_⟩⟩
          rw [d1]
          refine ⟨_, rfl, _, rfl, y, _, _, _, rfl, hmK, oms, .inr ⟨x, _, _, _, rfl, hmx, oms, ?_⟩⟩
          rw [d1]
          refine ⟨_, rfl, _, rfl, x, _, _, _, rfl, hmx, oms, .inr ⟨x, _, _, _, rfl, hmx, oms, ?_⟩⟩
          rw [d1]
          refine ⟨_, rfl, _, rfl, x, _, _, _, rfl, hmx, oms, .inr ⟨y, _, _, _, rfl, hmK, oms, _, rfl, _, rfl, ?_⟩⟩
          rw [d1]
          refine ⟨(by show 4 ≤ sizeLine; decide), fun tt htt => ?_⟩
          obtain ⟨HL, e64, s64, g64⟩ : ∃ HL, HL = upd HK tt (.tup [.bl true, .bl true, .bl true, .bl (!(!true))]) ∧ Same HK HL ∧ HL tt = some (.tup [.bl true, .bl true, .bl true, .bl (!(!true))]) := ⟨_, rfl, same_upd htt, upd_same⟩
          rw [← e64]
          clear e64
          have c64 := cK.trans s64
          refine ⟨tt, rfl, ⟨_, SqT.of g64⟩, ?_⟩
          refine for_tup (K := K) (a := tt) (xs := [.bl true, .bl true, .bl true, .bl (!(!true))]) (fun i σ H' => ∃ w6, σ = [some (.ref p), some (.ref a), some (.ref hd), some (.ref D), none, some (.ref x), w6, some (.ref r0), some (.ref f0), v9, v10, some (.ref y)] ∧ Same HL H') ⟨_, rfl, fun _ _ e => e⟩ (fun i σ H' _ ⟨_, _, sB⟩ => SqT.of (sB _ _ g64)) ?_ ?_
          · rintro i z σ H2 hz ⟨w6, rfl, sB⟩
            have ez : z = .bl true := by
              have hz' := List.mem_of_getElem? hz
              simp only [Bool.not_false, Bool.not_true, List.mem_cons, List.not_mem_nil, or_false, or_self] at hz'
              exact hz'
            subst ez
            refine ⟨_, rfl, _, _, rfl, .flat rfl, fun H3 s3 => ⟨true, rfl, iteF ?_⟩⟩
            exact ⟨_, rfl, sB.trans s3⟩
          · rintro σ H2 ⟨w6, rfl, sB⟩
            have cL := c64.trans sB
            have oL : Old p H H2 := oE.trans (.of_same (sH.trans cL))
            have pL := pE.same (sH.trans cL)
            have hwL := hwH.same cL
            have hmL := hmH.same cL
            refine ⟨_, rfl, _, rfl, _, rfl, _, rfl, p, a, ms, bs, es, rs, js, nE, rfl, hwL, W, pL, by omega, fun o0 ys H3 go ho p3' o3' f3 => ?_⟩
            have hw3 := hwL.old pL o3'
            have hm3 := hmL.old pL o3'
            refine ⟨x, a, o0, ms, bs, es, rs, js, ys, rfl, hm3, om, hw3, go, ho, fun H4' s4' => ⟨true, rfl, iteF ?_⟩⟩
            refine ⟨_, rfl, _, rfl, x, a, ms, bs, es, rs, js, rfl, hm3.same s4', om, hw3.same s4', few, W.base.rw, W.base.jw, by omega, by omega, fun H5' s5' => ⟨true, rfl, iteF ?_⟩⟩
            have s45 := s4'.trans s5'
            have p5' := p3'.same s45
            refine ⟨_, rfl, _, rfl, _, rfl, p, x, a, ms, bs, es, rs, js, _, rfl, hm3.same s45, hw3.same s45, W, p5', by omega, fun H6' o6' p6' => ⟨true, rfl, ?_⟩⟩
            refine iteT ?_
            refine ⟨_, rfl, _, rfl, x, a, ms, bs, es, rs, js, rfl, (hm3.same s45).old p5' o6', (hw3.same s45).old p5' o6', few, fun H7' s7' => ?_⟩
            exact q _ (oL.trans (o3'.trans ((Old.of_same s45).trans (o6'.trans (.of_same s7'))))) ((p6'.same s7').up (by omega))
end
end L2.K03
set_option Elab.async false
set_option linter.all false
set_option maxRecDepth 100000
set_option maxHeartbeats 4000000
namespace L2.K03
open PySem PySem.Spec PyProof.Rows L2.EV L2
/-! ### the law -/
abbrev sLaw : Stmt := top 57
abbrev nLaw : List Str := ["_law_script", "_law_purse_here", "_law_empty"]
theorem scLaw : FnScope nLaw ["_law_script"] (defScope sLaw) := ⟨rfl, rfl, rfl, by decide +kernel, rfl, by decide +kernel, by decide +kernel⟩
def spLaw (K : PySem.W.Frag) : Sp := fun vs H Q _ => ∃ (a : Addr) (ns : List Int), vs = [.ref a] ∧ SqL K H a (ns.map V.int) ∧ ns.length ≤ 63 ∧ ∀ H', Q (.bl true) H'
section
variable {P : Program} {w : World} {K : PySem.W.Frag} {mg : Str → Option Value} {base : Heap} {f : Addr} {fd : FuncData}
theorem word_a : Word "a" := ⟨⟨by decide +kernel, by decide +kernel⟩, by decide +kernel⟩
theorem ok_law (F : FnP K "law" sLaw f fd) (GP : Got P w K mg base 2 "_law_purses" ["_law_script", "_law_few"] (spPurses K)) (GR : Got P w K mg base 11 "_law_right" ["_law_purse_here"] spRt) (M : My K) (N : NoNe K) (O : OwnE P w K mg base) (G : GotC P w K mg base)
    (RO : GotX P w K mg base 4 "rooms_of" ["manual"] (spRO K)) (JO : GotX P w K mg base 4 "jobs_of" ["manual"] (spJO K)) : FnOk P w K mg base CX0 12 f fd ["_law_script"] (spLaw K) := by
  refine F.ok scLaw (fun vs H Q E h => ?_) (fun cdv A outer s H vs Q E hr h => ?_)
  · obtain ⟨a, ns, rfl, _⟩ := h
    rfl
  · obtain ⟨a, ns, rfl, hS, hl63, q⟩ := h
    have hu := hr.units
    have hr1 := hr.mono (show 1 ≤ 11 by decide)
    have hr2 := hr.mono (show 2 ≤ 11 by decide)
    have hr6 := hr.mono (show 6 ≤ 11 by decide)
    refine ⟨_, PSs.nox (pss_cons (ps_for PassesOwn.never rfl (pi_list (pe_got GP hr (pa_cons (pv 0) (pa_cons pe_int pa_nil)))) (pg_name (i := 1) scLaw.nd rfl (Or.inl rfl))
        (pss_one (ps_if (pt_not (pt_val (pe_got GR hr (pa_cons (pv 1) pa_nil)))) (pss_one (ps_ret pe_bl)) pss_nil)))
      (pss_cons (ps_set (i := 2) scLaw.nd rfl (Or.inl rfl) (pe_man G hr6 (pa_cons (pe_lst pa_nil) (pa_cons (pe_lst pa_nil) (pa_cons (pe_lst pa_nil) pa_nil)))))
      (pss_one (ps_ret (pe_and (pe_cmpR (op_eqM O M hr1) (pv 2) (pe_man G hr6 (pa_cons (pe_lst pa_nil) (pa_cons (pe_lst pa_nil) (pa_cons (pe_lst pa_nil) pa_nil)))) (nomark _))
        (pe_and (pe_cmpR (op_eqD hu) (pe_gotF RO hr (pa_cons (pv 2) pa_nil)) (pe_lst pa_nil) (nomark _))
        (pe_and (pe_cmpR (op_eqD hu) (pe_gotF JO hr (pa_cons (pv 2) pa_nil)) (pe_lst pa_nil) (nomark _))
        (pe_one (pe_cmpR (op_neM O M N hr2) (pv 2) (pe_man G hr6 (pa_cons (pe_lst pa_nil) (pa_cons (pe_lst (pa_cons pe_str pa_nil)) (pa_cons (pe_lst pa_nil) pa_nil)))) (nomark _)))))))))), ?_⟩
    refine ⟨_, rfl, a, ns, 4, rfl, hS, hl63, ⟨by decide, by decide⟩, fun lp ps Hp0 hlen hlp hps s0 => ⟨lp, rfl, ⟨_, SqL.of hlp⟩, ?_⟩⟩
    have item : ∀ {i : Nat} {x : V}, (ps.map V.ref)[i]? = some x → ∃ e, ps[i]? = some e ∧ x = .ref e := fun {i x} h1 => by
      rw [List.getElem?_map] at h1
      cases q : ps[i]? with
      | none => rw [q] at h1; cases h1
      | some e => rw [q] at h1; exact ⟨e, rfl, (Option.some.inj h1).symm⟩
    refine for_list (K := K) (a := lp) (xs := ps.map V.ref) (fun i σ H' => (∃ v1, σ = [some (.ref a), v1, none]) ∧ H' lp = some (.lst (ps.map V.ref)) ∧ ∀ p ∈ ps, PurseAt H' p (2000 * i))
      ⟨⟨_, rfl⟩, hlp, fun p hp => (hps p hp).1⟩ (fun i σ H' _ ⟨_, g, _⟩ => SqL.of g) ?_ ?_
    · rintro i x σ H' hx ⟨⟨v1, rfl⟩, g, hp⟩
      obtain ⟨p, h1, rfl⟩ := item hx
      have hi : i < ps.length := (List.getElem?_eq_some_iff.mp h1).1
      have hm : p ∈ ps := List.mem_of_getElem? h1
      refine ⟨_, rfl, p, 2000 * i, rfl, hp p hm, by omega, fun H2 o2 p2 => ⟨true, rfl, iteF ?_⟩⟩
      refine ⟨⟨_, rfl⟩, o2 _ _ (Ne.symm (hps p hm).2) g, fun r hq => ?_⟩
      by_cases e : r = p
      · rw [e]
        exact p2.up (by omega)
      · obtain ⟨c, z, t, b, h3, h4⟩ := (hp r hq).up (m := 2000 * (i + 1)) (by omega)
        exact ⟨c, z, t, b, o2 _ _ e h3, h4⟩
    · rintro σ H1 ⟨⟨v1, rfl⟩, _, _⟩
      have ok0 : MOk [] [] [] := ⟨fun _ h => (List.not_mem_nil h).elim, fun _ h => (List.not_mem_nil h).elim, fun _ h => (List.not_mem_nil h).elim⟩
      have cZ : Same H1 H1 := fun _ _ e => e
      refine ⟨(by show 0 ≤ sizeLine; decide), fun l1 hl1 => ?_⟩
      obtain ⟨H2, e1, s1, g1⟩ : ∃ H2, H2 = upd H1 l1 (.lst []) ∧ Same H1 H2 ∧ H2 l1 = some (.lst []) := ⟨_, rfl, same_upd hl1, upd_same⟩
      rw [← e1]
      clear e1
      have c1 := cZ.trans s1
      refine ⟨(by show 0 ≤ sizeLine; decide), fun l2 hl2 => ?_⟩
      obtain ⟨H3, e2, s2, g2⟩ : ∃ H3, H3 = upd H2 l2 (.lst []) ∧ Same H2 H3 ∧ H3 l2 = some (.lst []) := ⟨_, rfl, same_upd hl2, upd_same⟩
      rw [← e2]
      clear e2
      have c2 := c1.trans s2
      refine ⟨(by show 0 ≤ sizeLine; decide), fun l3 hl3 => ?_⟩
      obtain ⟨H4, e3, s3, g3⟩ : ∃ H4, H4 = upd H3 l3 (.lst []) ∧ Same H3 H4 ∧ H4 l3 = some (.lst []) := ⟨_, rfl, same_upd hl3, upd_same⟩
      rw [← e3]
      clear e3
      have c3 := c2.trans s3
      refine fun x dx hx hdx nx => ?_
      refine made (ms := []) (bs := []) (es := []) ((s2.trans s3) _ _ g1) Mans.nil (s3 _ _ g2) g3 ok0 (by decide) (by decide) (by decide) List.nodup_nil List.nodup_nil List.nodup_nil hx hdx nx fun H5 hm5 s4 => ⟨rfl, ?_⟩
      have c4 := c3.trans s4
      have e0 : srtM [] = [] := List.eq_nil_of_length_eq_zero (by rw [(srtM_perm []).length_eq]; rfl)
      have w0 : srtW [] = [] := List.eq_nil_of_length_eq_zero (by rw [(srtW_perm []).length_eq]; rfl)
      rw [e0, w0] at hm5
      refine ⟨_, rfl, (by show 0 ≤ sizeLine; decide), fun l5 hl5 => ?_⟩
      obtain ⟨H6, e5, s5, g5⟩ : ∃ H6, H6 = upd H5 l5 (.lst []) ∧ Same H5 H6 ∧ H6 l5 = some (.lst []) := ⟨_, rfl, same_upd hl5, upd_same⟩
      rw [← e5]
      clear e5
      have c5 := c4.trans s5
      refine ⟨(by show 0 ≤ sizeLine; decide), fun l6 hl6 => ?_⟩
      obtain ⟨H7, e6, s6, g6⟩ : ∃ H7, H7 = upd H6 l6 (.lst []) ∧ Same H6 H7 ∧ H7 l6 = some (.lst []) := ⟨_, rfl, same_upd hl6, upd_same⟩
      rw [← e6]
      clear e6
      have c6 := c5.trans s6
      refine ⟨(by show 0 ≤ sizeLine; decide), fun l7 hl7 => ?_⟩
      obtain ⟨H8, e7, s7, g7⟩ : ∃ H8, H8 = upd H7 l7 (.lst []) ∧ Same H7 H8 ∧ H8 l7 = some (.lst []) := ⟨_, rfl, same_upd hl7, upd_same⟩
      rw [← e7]
      clear e7
      have c7 := c6.trans s7
      refine fun y dy hy hdy ny => ?_
      refine made (ms := []) (bs := []) (es := []) ((s6.trans s7) _ _ g5) Mans.nil (s7 _ _ g6) g7 ok0 (by decide) (by decide) (by decide) List.nodup_nil List.nodup_nil List.nodup_nil hy hdy ny fun H9 hm9 s8 => ⟨rfl, ?_⟩
      rw [e0, w0] at hm9
      have s59 : Same H5 H9 := (s5.trans (s6.trans s7)).trans s8
      have d1 : decide (([] : List Mn) = [] ∧ ([] : List Str) = [] ∧ ([] : List Str) = []) = true := decide_eq_true ⟨rfl, rfl, rfl⟩
      refine ⟨x, _, _, _, rfl, hm5.same s59, ok0, .inr ⟨y, _, _, _, rfl, hm9, ok0, ?_⟩⟩
      rw [d1]
      refine ⟨true, rfl, iteT ?_⟩
      have few0 : Few [] [] [] := ⟨by decide, by decide, by decide⟩
      have r0 : setW (roomsL [] [] []) = [] := List.eq_nil_of_length_eq_zero (Nat.eq_zero_of_le_zero (setW_len []))
      have j0 : setW (jobsL []) = [] := List.eq_nil_of_length_eq_zero (Nat.eq_zero_of_le_zero (setW_len []))
      have nil0 : ∀ {H : Hp} {p : Addr}, H p = some (.lst []) → Dp K H (.ref p) (.list []) := fun h => .lst (SqL.of h) .nil
      refine ⟨_, rfl, .ref x, rfl, .inr ⟨x, _, _, _, rfl, hm5.same s59, few0, fun p1 Ha sa hp1 ga => ?_⟩⟩
      rw [r0] at ga
      refine ⟨(by show 0 ≤ sizeLine; decide), fun l8 hl8 => ?_⟩
      obtain ⟨Hb, e9, s9, g9⟩ : ∃ Hb, Hb = upd Ha l8 (.lst []) ∧ Same Ha Hb ∧ Hb l8 = some (.lst []) := ⟨_, rfl, same_upd hl8, upd_same⟩
      rw [← e9]
      clear e9
      refine ⟨.list [], .list [], nil0 (s9 _ _ ga), nil0 g9, by decide +kernel, by decide +kernel, ?_⟩
      rw [show PyData.eqv (.list []) (.list []) = true from by decide +kernel]
      refine ⟨true, rfl, iteT ?_⟩
      have s5b := s59.trans (sa.trans s9)
      refine ⟨_, rfl, .ref x, rfl, .inr ⟨x, _, _, _, rfl, hm5.same s5b, few0, fun p2 Hc sc hp2 gc => ?_⟩⟩
      rw [j0] at gc
      refine ⟨(by show 0 ≤ sizeLine; decide), fun l9 hl9 => ?_⟩
      obtain ⟨Hd, e10, s10, g10⟩ : ∃ Hd, Hd = upd Hc l9 (.lst []) ∧ Same Hc Hd ∧ Hd l9 = some (.lst []) := ⟨_, rfl, same_upd hl9, upd_same⟩
      rw [← e10]
      clear e10
      refine ⟨.list [], .list [], nil0 (s10 _ _ gc), nil0 g10, by decide +kernel, by decide +kernel, ?_⟩
      rw [show PyData.eqv (.list []) (.list []) = true from by decide +kernel]
      refine ⟨true, rfl, iteT ?_⟩
      have s5d := s5b.trans (sc.trans s10)
      have cD : Same Hd Hd := fun _ _ e => e
      refine ⟨_, rfl, (by show 0 ≤ sizeLine; decide), fun la hla => ?_⟩
      obtain ⟨He, e11, s11, g11⟩ : ∃ He, He = upd Hd la (.lst []) ∧ Same Hd He ∧ He la = some (.lst []) := ⟨_, rfl, same_upd hla, upd_same⟩
      rw [← e11]
      clear e11
      have c11 := cD.trans s11
      refine ⟨(by show 1 ≤ sizeLine; decide), fun lb hlb => ?_⟩
      obtain ⟨Hf, e12, s12, g12⟩ : ∃ Hf, Hf = upd He lb (.lst [.str "a"]) ∧ Same He Hf ∧ Hf lb = some (.lst [.str "a"]) := ⟨_, rfl, same_upd hlb, upd_same⟩
      rw [← e12]
      clear e12
      have c12 := c11.trans s12
      refine ⟨(by show 0 ≤ sizeLine; decide), fun lc hlc => ?_⟩
      obtain ⟨Hg, e13, s13, g13⟩ : ∃ Hg, Hg = upd Hf lc (.lst []) ∧ Same Hf Hg ∧ Hg lc = some (.lst []) := ⟨_, rfl, same_upd hlc, upd_same⟩
      rw [← e13]
      clear e13
      have c13 := c12.trans s13
      refine fun z dz hz hdz nz => ?_
      have oka : MOk [] ["a"] [] := ⟨fun _ h => (List.not_mem_nil h).elim, fun y hy => by rw [List.mem_singleton.mp hy]; exact word_a, fun _ h => (List.not_mem_nil h).elim⟩
      refine made (ms := []) (bs := ["a"]) (es := []) ((s12.trans s13) _ _ g11) Mans.nil (s13 _ _ g12) g13 oka (by decide) (by decide) (by decide) List.nodup_nil (by decide) List.nodup_nil hz hdz nz fun Hh hmh sh => ⟨rfl, ?_⟩
      have w1 : srtW [("a" : Str)] = [("a" : Str)] := List.perm_singleton.mp (srtW_perm ["a"])
      rw [e0, w0, w1] at hmh
      have d2 : decide (([] : List Mn) = [] ∧ ([] : List Str) = [("a" : Str)] ∧ ([] : List Str) = []) = false := decide_eq_false fun z => by cases z.2.1
      refine ⟨x, _, _, _, rfl, hm5.same (s5d.trans (c13.trans sh)), ok0, .inr ⟨z, _, _, _, rfl, hmh, oka, ?_⟩⟩
      rw [d2]
      exact ⟨false, rfl, q _⟩
end
end L2.K03
set_option Elab.async false
set_option linter.all false
set_option maxRecDepth 100000
set_option maxHeartbeats 4000000
namespace L2.K03
open PySem PySem.Spec PyProof.Rows L2.EV L2
def dn (x : Str) (i : Nat) : He.DefD := ⟨(x, none), x, x, defArgs (top i), defBody (top i), defScope (top i), [], []⟩
def di (x q : Str) (i : Nat) : He.DefD := ⟨(x, some "__init__"), "__init__", q, defArgs (inClass (top i) 0), defBody (inClass (top i) 0), defScope (inClass (top i) 0), [.non], []⟩
def dm (m q : Str) (i : Nat) : He.DefD := ⟨("Manual", some m), m, q, defArgs (inClass (top 27) i), defBody (inClass (top 27) i), defScope (inClass (top 27) i), [], []⟩
def fn : List He.DefD := [dn "is_count" 11, dn "is_tuple_of" 12, dn "has_word_form" 13, dn "has_effect_form" 14, dn "has_manner_form" 15, dn "has_book_form" 16, dn "has_rooms_form" 17, dn "has_manners_form" 18, dn "are_unlike" 19, dn "all_rooms" 21, dn "all_jobs" 22, dn "check_word" 24, dn "check_room" 25, dn "check_manual" 28, dn "rooms_of" 29, dn "jobs_of" 30, dn "manners_at" 31, dn "_law_purse" 33, dn "_law_mixed" 34, dn "_law_draw" 35, dn "_law_purses" 36, dn "_law_one_of" 37, dn "_law_shuffled" 38, dn "_law_exact" 39, dn "_law_word" 40, dn "_law_words" 41, dn "_law_effect" 42, dn "_law_manner" 43, dn "_law_some" 44, dn "_law_world_of" 45, dn "_law_world" 46, dn "_law_rooms" 47, dn "_law_jobs" 48, dn "_law_told" 49, dn "_law_very" 50, dn "_law_all_right" 51, dn "_law_others" 52, dn "_law_unlike_right" 53, dn "_law_at_right" 54, dn "_law_refused_right" 55, dn "_law_right" 56, dn "law" 57, di "InvalidWord" "InvalidWord.__init__" 2, di "InvalidManners" "InvalidManners.__init__" 3, di "InvalidRooms" "InvalidRooms.__init__" 4, di "InvalidManual" "InvalidManual.__init__" 5, di "InvalidRoom" "InvalidRoom.__init__" 6, dm "__init__" "Manual.__init__" 0, dm "manners" "Manual.manners" 1, dm "beginnings" "Manual.beginnings" 2, dm "ends" "Manual.ends" 3, dm "__eq__" "Manual.__eq__" 4]
def fa : List He.Fa := [.glo "is_count", .glo "is_tuple_of", .glo "has_word_form", .glo "has_effect_form", .glo "has_manner_form", .glo "has_book_form", .glo "has_rooms_form", .glo "has_manners_form", .glo "are_unlike", .glo "all_rooms", .glo "all_jobs", .glo "check_word", .glo "check_room", .glo "check_manual", .glo "rooms_of", .glo "jobs_of", .glo "manners_at", .glo "_law_purse", .glo "_law_mixed", .glo "_law_draw", .glo "_law_purses", .glo "_law_one_of", .glo "_law_shuffled", .glo "_law_exact", .glo "_law_word", .glo "_law_words", .glo "_law_effect", .glo "_law_manner", .glo "_law_some", .glo "_law_world_of", .glo "_law_world", .glo "_law_rooms", .glo "_law_jobs", .glo "_law_told", .glo "_law_very", .glo "_law_all_right", .glo "_law_others", .glo "_law_unlike_right", .glo "_law_at_right", .glo "_law_refused_right", .glo "_law_right", .glo "law", .free "isinstance", .free "int", .free "bool", .free "str", .free "tuple", .free "len", .free "all", .free "list", .free "dict", .free "zip", .free "range", .free "max", .free "min", .free "sum", .free "set", .free "sorted", .free "reversed", .glo "PurseError", .glo "NUMBERS_BEHIND", .glo "Manual", .int "LONGEST_WORD" 8, .int "MOST_COINS" 3, .cls "Manual", .noat "Manual" "_manners", .noat "Manual" "_beginnings", .noat "Manual" "_ends", .meth "Manual" "manners", .meth "Manual" "beginnings", .meth "Manual" "ends", .mkr "Manual"]
def ts : List He.Tab := [((fun K => He.ga K "NUMBERS_BEHIND"), ["coins", "fill"])]
def errs : List Str := ["InvalidWord", "InvalidManners", "InvalidRooms", "InvalidManual", "InvalidRoom"]
def more (K : PySem.W.Frag) : Bool :=
  [errs.all fun x => errB K x, (List.range 5).all fun i => asksB K (c5 K i),
   (List.range 5).all fun i => (List.range 5).all fun j => decide (PySem.W.exmOne K (.ref (c5 K i)) (.ref (c5 K j)) = some (decide (i = j))),
   (List.range 5).all fun i => (List.range 5).all fun j => decide (PySem.W.kitOne K (.ref (c5 K i)) (.ref (c5 K j)) = some (decide (i = j))),
   (List.range 5).all fun i => decide (PySem.W.kitOne K (.ref (c5 K i)) (.ref (aP K)) = some true),
   He.valsB K (He.ga K "NUMBERS_BEHIND") [("coins", .int 1), ("fill", .int 2)],
   isB (PySem.W.findIn K (.ref (aC K)) "__class__") (some (some (.builtin "object.__class__"))),
   decide (PySem.W.specialIn K (.builtin "object.__class__") "__get__" = some (some (.builtin "getset_descriptor.__get__"))),
   decide (PySem.W.takesIn K (.builtin "object.__class__") = some true), decide (PySem.W.mroIn K (aC K) (.type "object") = some true),
   (["list", "tuple", "dict", "bool"] : List String).all fun T => decide (PySem.W.kitOne K (.ref (aC K)) (.type T) = some false),
   seven.all fun T => decide (PySem.W.mroIn K (aC K) (.type T) = some false),
   seven.all fun T => decide (PySem.W.kitOne K (.type T) (.ref (aC K)) = some false),
   seven.all fun T => PySem.W.notFirst K (aC K) (.type T),
   isB (PySem.W.findIn K (.ref (aC K)) "__ne__") (some (some (.builtin "object.__ne__"))),
   isB (PySem.W.findIn K (.ref (aC K)) "__eq__") (some (some (.ref (He.ma K (aC K) "__eq__")))), PySem.W.isFn K (.ref (He.ma K (aC K) "__eq__"))].all id
abbrev Al : Type := He.AlT × Bool
def obs (g : Addr → Option Obj) : Al := let K := He.frG g (He.asD g 5); (He.obsT fa fn ts K, more K)
def hk : PySem.W.Hook where
  α := Al
  obs := fun s => obs s.heap.get?
  val := fun w => (He.valT fn ts w, true)
  says := fun w h => ∃ K : PySem.W.Frag, K.In h ∧ He.SaysT fa fn ts w K ∧ more K = true
  of := fun _ _ e => ⟨_, He.frG_in, congrArg (fun z : Al => z.1) e, congrArg (fun z : Al => z.2) e⟩
  keeps := fun _ _ _ ⟨K, hK, c⟩ k => ⟨K, PySem.W.Frag.In.keeps hK k, c⟩
abbrev R : PySem.W.OpenRow := PySem.W.OpenLaw.row PySem.Challenge.rw_withinbooks_k03_manuals_kept_and_compare
def ob (s : PySem.W.SharedT) : Al := obs (HandSHeadRun.getT s)
theorem ob_eq (s : PySem.W.SharedT) : ob s = hk.obs s.abs := by
  have e : HandSHeadRun.getT s = s.abs.heap.get? := funext (HandSHeadRun.getT_eq s)
  show obs _ = obs _
  rw [e]
def loose : List Str := (["PurseError", "InvalidWord", "InvalidManners", "InvalidRooms", "InvalidManual", "InvalidRoom", "LONGEST_WORD", "MOST_COINS", "NUMBERS_BEHIND", "Manual", "is_count", "is_tuple_of", "has_word_form", "has_effect_form", "has_manner_form", "has_book_form", "has_rooms_form", "has_manners_form", "are_unlike", "all_rooms"] : List Str) ++ (["all_jobs", "check_word", "check_room", "check_manual", "rooms_of", "jobs_of", "manners_at", "_law_purse", "_law_mixed", "_law_draw", "_law_purses", "_law_one_of", "_law_shuffled", "_law_exact", "_law_word", "_law_words", "_law_effect", "_law_manner", "_law_some", "_law_world_of"] : List Str) ++ (["_law_world", "_law_rooms", "_law_jobs", "_law_told", "_law_very", "_law_all_right", "_law_others", "_law_unlike_right", "_law_at_right", "_law_refused_right", "_law_right"] : List Str)
end L2.K03
set_option Elab.async false
set_option linter.all false
set_option maxRecDepth 100000
set_option maxHeartbeats 0
namespace L2.K03
open PySem PySem.Spec PyProof.Rows L2.EV L2
theorem runF (w : World) : HandSHeadRun.RunEq R (PySem.W.view R.prog [57]) hk ob 9000 loose (w.withFollow "special-get-raises" false) := by
  intro os
  kernel_rfl
theorem runT (w : World) : HandSHeadRun.RunEq R (PySem.W.view R.prog [57]) hk ob 9000 loose (w.withFollow "special-get-raises" true) := by
  intro os
  kernel_rfl
theorem run (w : World) : HandSHeadRun.RunEq R (PySem.W.view R.prog [57]) hk ob 9000 loose w :=
  PySem.W.byRow2 "special-get-raises" (P := fun w => HandSHeadRun.RunEq R (PySem.W.view R.prog [57]) hk ob 9000 loose w) runF runT w
end L2.K03
set_option Elab.async false
set_option linter.all false
set_option maxRecDepth 100000
set_option maxHeartbeats 4000000
namespace L2.K03
open PySem PySem.Spec PyProof.Rows L2.EV L2
theorem keyOf_ok {e : DictEntry} {k : Str} {x : Int} (h : He.keyOf e = some (k, x)) : ∃ t, e.key = .str k t := by
  unfold He.keyOf at h
  split at h
  · rename_i y t q
    obtain ⟨h5, _⟩ := Prod.mk.inj (Option.some.inj h)
    exact ⟨t, by rw [q, h5]⟩
  · cases h
/-- no such key -/
theorem miss_of {K : PySem.W.Frag} {P : Params} {a : Addr} {ks : List Str} (h : He.dicW K a = some (He.keysIn P ks)) {z : Str} (hz : z ∉ ks) : PySem.W.nsIn K a z = some none := by
  unfold He.dicW at h
  split at h
  · rename_i c es n sl q
    split at h
    · have e := Option.some.inj h
      have keys : ∀ d ∈ es.toList, ∃ k t, k ∈ ks ∧ d.key = .str k t := fun d hd => by
        have m : He.keyOf d ∈ He.keysIn P ks := e ▸ List.mem_map_of_mem hd
        obtain ⟨k, hk, ek⟩ := List.mem_map.mp m
        obtain ⟨t, et⟩ := keyOf_ok ek.symm
        exact ⟨k, t, hk, et⟩
      have f : es.toList.find? (·.key.isStr z) = none := List.find?_eq_none.mpr fun d hd => by
        obtain ⟨k, t, hk, et⟩ := keys d hd
        rw [et]
        show ¬ ((k == z) = true)
        intro y
        exact hz (eq_of_beq y ▸ hk)
      have g : es.toList.any (·.refKey) = false := List.any_eq_false.mpr fun d hd => by
        obtain ⟨k, t, hk, et⟩ := keys d hd
        have e : d.refKey = false := by
          unfold DictEntry.refKey
          rw [et]
        rw [e]
        exact Bool.false_ne_true
      unfold PySem.W.nsIn
      rw [q]
      dsimp only
      rw [f, g]
      rfl
    · cases h
  · cases h
theorem nb_of {K : PySem.W.Frag} {w : World} {mg : Str → Option Value} (gD : mg "NUMBERS_BEHIND" = some (.ref (He.ga K "NUMBERS_BEHIND"))) (c : He.SaysT fa fn ts w K) (v : He.valsB K (He.ga K "NUMBERS_BEHIND") [("coins", .int 1), ("fill", .int 2)] = true) : Nb K w mg := by
  have e : ts.map (fun t => He.dicW K (t.1 K)) = ts.map fun t => some (He.keysIn w.params t.2) := congrArg (fun z : He.AlT => z.2) c
  have e0 : He.dicW K (He.ga K "NUMBERS_BEHIND") = some (He.keysIn w.params ["coins", "fill"]) := (List.cons.inj e).1
  obtain ⟨es, n, kd⟩ := He.dicW_ok e0
  refine ⟨_, es, n, gD, kd, fun z hz => miss_of e0 fun m => ?_, fun z k hz => ?_⟩
  · unfold behind at hz
    rcases List.mem_cons.mp m with e | m
    · rw [if_pos e] at hz
      cases hz
    · have e := List.mem_singleton.mp m
      rw [e] at hz
      cases hz
  · unfold behind at hz
    split at hz
    · next e =>
      cases hz
      obtain ⟨u, hu, t, r⟩ := He.valsB_ok v (q := ("coins", .int 1)) (.head _)
      exact ⟨t, by rw [e, hu, r]; rfl⟩
    · split at hz
      · next e =>
        cases hz
        obtain ⟨u, hu, t, r⟩ := He.valsB_ok v (q := ("fill", .int 2)) (.tail _ (.head _))
        exact ⟨t, by rw [e, hu, r]; rfl⟩
      · cases hz
theorem in_InvalidWord : Init1 (inClass (top 2) 0) := ⟨⟨_, _, _, _, _, _, _, rfl, rfl, rfl⟩⟩
theorem in_InvalidManners : Init1 (inClass (top 3) 0) := ⟨⟨_, _, _, _, _, _, _, rfl, rfl, rfl⟩⟩
theorem in_InvalidRooms : Init1 (inClass (top 4) 0) := ⟨⟨_, _, _, _, _, _, _, rfl, rfl, rfl⟩⟩
theorem in_InvalidManual : Init1 (inClass (top 5) 0) := ⟨⟨_, _, _, _, _, _, _, rfl, rfl, rfl⟩⟩
theorem in_InvalidRoom : Init1 (inClass (top 6) 0) := ⟨⟨_, _, _, _, _, _, _, rfl, rfl, rfl⟩⟩
theorem ok_ex0 {P : Program} {w : World} {K : PySem.W.Frag} {mg : Str → Option Value} {base : Heap} {f : Addr} {fd : FuncData} (F : FnP K "_law_exact" sEx f fd) : FnOk P w K mg base CX0 1 f fd pEx (spEx 0) := by
  refine F.ok (k := 0) scEx (fun vs H Q E h => ?_) (fun cdv A outer s H vs Q E hr h => ?_)
  · obtain ⟨x, y, rfl, _⟩ := h
    rfl
  · obtain ⟨x, y, _, hA, _⟩ := h
    cases hA
theorem ok_em0 {P : Program} {w : World} {K : PySem.W.Frag} {mg : Str → Option Value} {base : Heap} {f : Addr} {fd : FuncData} (F : FnP K "_law_exact" sEm f fd) : FnOk P w K mg base CX0 1 f fd pEm (spEm K 0) := by
  refine F.ok (k := 0) scEm (fun vs H Q E h => ?_) (fun cdv A outer s H vs Q E hr h => ?_)
  · obtain ⟨x, y, rfl, _⟩ := h
    rfl
  · obtain ⟨x, y, _, hA, _⟩ := h
    cases hA
theorem fnG {P : Program} {w : World} {K : PySem.W.Frag} {mg : Str → Option Value} {base : Heap} {k : Nat} {f : Addr} {fd : FuncData} {ps : List Str} {sp : Sp} (F : FnOk P w K mg base CX0 k f fd ps sp) : FnG P w K mg base k f fd ps sp :=
  ⟨F.len, fun A outer s H args us vs Q E _ => F.run A outer s H args us vs Q E⟩
theorem roAr_rel {zs : List V} {ws : List Value} (r : Vals zs ws) (h : zs.length = 3) : Vals (roAr zs) (roAr ws) := by
  match zs, h, r with
  | [a, b, c], _, .cons r1 (.cons r2 (.cons r3 .nil)) => exact .cons r2 (.cons r3 (.cons r1 .nil))
theorem rg {n : Nat} {p : Nat → Bool} (h : (List.range n).all p = true) {i : Nat} (hi : i < n) : p i = true := List.all_eq_true.mp h i (List.mem_range.mpr hi)
theorem facts {P : Program} {w : World} {K : PySem.W.Frag} {h : Heap} {mg : Str → Option Value} {f : Addr} (X : K.In h) (G : h.Ns mainGlobals mg) (hfa : mg ("law" : Str) = some (.ref f)) (c : He.SaysT fa fn ts w K) (MM : more K = true) :
    ∃ fd : FuncData, (∀ (s : Shared) (v : Value), BindsTo s fd ⟨[v], []⟩ [("_law_script", v)]) ∧ ∀ base : Heap, K.In base → base.Ns mainGlobals mg → FnG P w K mg base 12 f fd ["_law_script"] (spLaw K) := by
  obtain ⟨d0, F0⟩ := c.d.def_ 0 (d := dn "is_count" 11) rfl
  obtain ⟨d1, F1⟩ := c.d.def_ 1 (d := dn "is_tuple_of" 12) rfl
  obtain ⟨d2, F2⟩ := c.d.def_ 2 (d := dn "has_word_form" 13) rfl
  obtain ⟨d3, F3⟩ := c.d.def_ 3 (d := dn "has_effect_form" 14) rfl
  obtain ⟨d4, F4⟩ := c.d.def_ 4 (d := dn "has_manner_form" 15) rfl
  obtain ⟨d5, F5⟩ := c.d.def_ 5 (d := dn "has_book_form" 16) rfl
  obtain ⟨d6, F6⟩ := c.d.def_ 6 (d := dn "has_rooms_form" 17) rfl
  obtain ⟨d7, F7⟩ := c.d.def_ 7 (d := dn "has_manners_form" 18) rfl
  obtain ⟨d8, F8⟩ := c.d.def_ 8 (d := dn "are_unlike" 19) rfl
  obtain ⟨d9, F9⟩ := c.d.def_ 9 (d := dn "all_rooms" 21) rfl
  obtain ⟨d10, F10⟩ := c.d.def_ 10 (d := dn "all_jobs" 22) rfl
  obtain ⟨d11, F11⟩ := c.d.def_ 11 (d := dn "check_word" 24) rfl
  obtain ⟨d12, F12⟩ := c.d.def_ 12 (d := dn "check_room" 25) rfl
  obtain ⟨d13, F13⟩ := c.d.def_ 13 (d := dn "check_manual" 28) rfl
  obtain ⟨d14, F14⟩ := c.d.def_ 14 (d := dn "rooms_of" 29) rfl
  obtain ⟨d15, F15⟩ := c.d.def_ 15 (d := dn "jobs_of" 30) rfl
  obtain ⟨d16, F16⟩ := c.d.def_ 16 (d := dn "manners_at" 31) rfl
  obtain ⟨d17, F17⟩ := c.d.def_ 17 (d := dn "_law_purse" 33) rfl
  obtain ⟨d18, F18⟩ := c.d.def_ 18 (d := dn "_law_mixed" 34) rfl
  obtain ⟨d19, F19⟩ := c.d.def_ 19 (d := dn "_law_draw" 35) rfl
  obtain ⟨d20, F20⟩ := c.d.def_ 20 (d := dn "_law_purses" 36) rfl
  obtain ⟨d21, F21⟩ := c.d.def_ 21 (d := dn "_law_one_of" 37) rfl
  obtain ⟨d22, F22⟩ := c.d.def_ 22 (d := dn "_law_shuffled" 38) rfl
  obtain ⟨d23, F23⟩ := c.d.def_ 23 (d := dn "_law_exact" 39) rfl
  obtain ⟨d24, F24⟩ := c.d.def_ 24 (d := dn "_law_word" 40) rfl
  obtain ⟨d25, F25⟩ := c.d.def_ 25 (d := dn "_law_words" 41) rfl
  obtain ⟨d26, F26⟩ := c.d.def_ 26 (d := dn "_law_effect" 42) rfl
  obtain ⟨d27, F27⟩ := c.d.def_ 27 (d := dn "_law_manner" 43) rfl
  obtain ⟨d28, F28⟩ := c.d.def_ 28 (d := dn "_law_some" 44) rfl
  obtain ⟨d29, F29⟩ := c.d.def_ 29 (d := dn "_law_world_of" 45) rfl
  obtain ⟨d30, F30⟩ := c.d.def_ 30 (d := dn "_law_world" 46) rfl
  obtain ⟨d31, F31⟩ := c.d.def_ 31 (d := dn "_law_rooms" 47) rfl
  obtain ⟨d32, F32⟩ := c.d.def_ 32 (d := dn "_law_jobs" 48) rfl
  obtain ⟨d33, F33⟩ := c.d.def_ 33 (d := dn "_law_told" 49) rfl
  obtain ⟨d34, F34⟩ := c.d.def_ 34 (d := dn "_law_very" 50) rfl
  obtain ⟨d35, F35⟩ := c.d.def_ 35 (d := dn "_law_all_right" 51) rfl
  obtain ⟨d36, F36⟩ := c.d.def_ 36 (d := dn "_law_others" 52) rfl
  obtain ⟨d37, F37⟩ := c.d.def_ 37 (d := dn "_law_unlike_right" 53) rfl
  obtain ⟨d38, F38⟩ := c.d.def_ 38 (d := dn "_law_at_right" 54) rfl
  obtain ⟨d39, F39⟩ := c.d.def_ 39 (d := dn "_law_refused_right" 55) rfl
  obtain ⟨d40, F40⟩ := c.d.def_ 40 (d := dn "_law_right" 56) rfl
  obtain ⟨d41, F41⟩ := c.d.def_ 41 (d := dn "law" 57) rfl
  obtain ⟨i0, I0⟩ := c.d.def_ 42 (d := di "InvalidWord" "InvalidWord.__init__" 2) rfl
  obtain ⟨i1, I1⟩ := c.d.def_ 43 (d := di "InvalidManners" "InvalidManners.__init__" 3) rfl
  obtain ⟨i2, I2⟩ := c.d.def_ 44 (d := di "InvalidRooms" "InvalidRooms.__init__" 4) rfl
  obtain ⟨i3, I3⟩ := c.d.def_ 45 (d := di "InvalidManual" "InvalidManual.__init__" 5) rfl
  obtain ⟨i4, I4⟩ := c.d.def_ 46 (d := di "InvalidRoom" "InvalidRoom.__init__" 6) rfl
  obtain ⟨e0, E0⟩ := c.d.def_ 47 (d := dm "__init__" "Manual.__init__" 0) rfl
  obtain ⟨e1, E1⟩ := c.d.def_ 48 (d := dm "manners" "Manual.manners" 1) rfl
  obtain ⟨e2, E2⟩ := c.d.def_ 49 (d := dm "beginnings" "Manual.beginnings" 2) rfl
  obtain ⟨e3, E3⟩ := c.d.def_ 50 (d := dm "ends" "Manual.ends" 3) rfl
  obtain ⟨e4, E4⟩ := c.d.def_ 51 (d := dm "__eq__" "Manual.__eq__" 4) rfl
  have g0 := He.glo_ok X G (c.d.fact 0 (f := .glo "is_count") rfl)
  have g1 := He.glo_ok X G (c.d.fact 1 (f := .glo "is_tuple_of") rfl)
  have g2 := He.glo_ok X G (c.d.fact 2 (f := .glo "has_word_form") rfl)
  have g3 := He.glo_ok X G (c.d.fact 3 (f := .glo "has_effect_form") rfl)
  have g4 := He.glo_ok X G (c.d.fact 4 (f := .glo "has_manner_form") rfl)
  have g5 := He.glo_ok X G (c.d.fact 5 (f := .glo "has_book_form") rfl)
  have g6 := He.glo_ok X G (c.d.fact 6 (f := .glo "has_rooms_form") rfl)
  have g7 := He.glo_ok X G (c.d.fact 7 (f := .glo "has_manners_form") rfl)
  have g8 := He.glo_ok X G (c.d.fact 8 (f := .glo "are_unlike") rfl)
  have g9 := He.glo_ok X G (c.d.fact 9 (f := .glo "all_rooms") rfl)
  have g10 := He.glo_ok X G (c.d.fact 10 (f := .glo "all_jobs") rfl)
  have g11 := He.glo_ok X G (c.d.fact 11 (f := .glo "check_word") rfl)
  have g12 := He.glo_ok X G (c.d.fact 12 (f := .glo "check_room") rfl)
  have g13 := He.glo_ok X G (c.d.fact 13 (f := .glo "check_manual") rfl)
  have g14 := He.glo_ok X G (c.d.fact 14 (f := .glo "rooms_of") rfl)
  have g15 := He.glo_ok X G (c.d.fact 15 (f := .glo "jobs_of") rfl)
  have g16 := He.glo_ok X G (c.d.fact 16 (f := .glo "manners_at") rfl)
  have g17 := He.glo_ok X G (c.d.fact 17 (f := .glo "_law_purse") rfl)
  have g18 := He.glo_ok X G (c.d.fact 18 (f := .glo "_law_mixed") rfl)
  have g19 := He.glo_ok X G (c.d.fact 19 (f := .glo "_law_draw") rfl)
  have g20 := He.glo_ok X G (c.d.fact 20 (f := .glo "_law_purses") rfl)
  have g21 := He.glo_ok X G (c.d.fact 21 (f := .glo "_law_one_of") rfl)
  have g22 := He.glo_ok X G (c.d.fact 22 (f := .glo "_law_shuffled") rfl)
  have g23 := He.glo_ok X G (c.d.fact 23 (f := .glo "_law_exact") rfl)
  have g24 := He.glo_ok X G (c.d.fact 24 (f := .glo "_law_word") rfl)
  have g25 := He.glo_ok X G (c.d.fact 25 (f := .glo "_law_words") rfl)
  have g26 := He.glo_ok X G (c.d.fact 26 (f := .glo "_law_effect") rfl)
  have g27 := He.glo_ok X G (c.d.fact 27 (f := .glo "_law_manner") rfl)
  have g28 := He.glo_ok X G (c.d.fact 28 (f := .glo "_law_some") rfl)
  have g29 := He.glo_ok X G (c.d.fact 29 (f := .glo "_law_world_of") rfl)
  have g30 := He.glo_ok X G (c.d.fact 30 (f := .glo "_law_world") rfl)
  have g31 := He.glo_ok X G (c.d.fact 31 (f := .glo "_law_rooms") rfl)
  have g32 := He.glo_ok X G (c.d.fact 32 (f := .glo "_law_jobs") rfl)
  have g33 := He.glo_ok X G (c.d.fact 33 (f := .glo "_law_told") rfl)
  have g34 := He.glo_ok X G (c.d.fact 34 (f := .glo "_law_very") rfl)
  have g35 := He.glo_ok X G (c.d.fact 35 (f := .glo "_law_all_right") rfl)
  have g36 := He.glo_ok X G (c.d.fact 36 (f := .glo "_law_others") rfl)
  have g37 := He.glo_ok X G (c.d.fact 37 (f := .glo "_law_unlike_right") rfl)
  have g38 := He.glo_ok X G (c.d.fact 38 (f := .glo "_law_at_right") rfl)
  have g39 := He.glo_ok X G (c.d.fact 39 (f := .glo "_law_refused_right") rfl)
  have g40 := He.glo_ok X G (c.d.fact 40 (f := .glo "_law_right") rfl)
  have m_isinstance := He.free_ok X G (c.d.fact 42 (f := .free "isinstance") rfl)
  have m_int := He.free_ok X G (c.d.fact 43 (f := .free "int") rfl)
  have m_bool := He.free_ok X G (c.d.fact 44 (f := .free "bool") rfl)
  have m_str := He.free_ok X G (c.d.fact 45 (f := .free "str") rfl)
  have m_tuple := He.free_ok X G (c.d.fact 46 (f := .free "tuple") rfl)
  have m_len := He.free_ok X G (c.d.fact 47 (f := .free "len") rfl)
  have m_all := He.free_ok X G (c.d.fact 48 (f := .free "all") rfl)
  have m_list := He.free_ok X G (c.d.fact 49 (f := .free "list") rfl)
  have m_dict := He.free_ok X G (c.d.fact 50 (f := .free "dict") rfl)
  have m_zip := He.free_ok X G (c.d.fact 51 (f := .free "zip") rfl)
  have m_range := He.free_ok X G (c.d.fact 52 (f := .free "range") rfl)
  have m_max := He.free_ok X G (c.d.fact 53 (f := .free "max") rfl)
  have m_min := He.free_ok X G (c.d.fact 54 (f := .free "min") rfl)
  have m_sum := He.free_ok X G (c.d.fact 55 (f := .free "sum") rfl)
  have m_set := He.free_ok X G (c.d.fact 56 (f := .free "set") rfl)
  have m_sorted := He.free_ok X G (c.d.fact 57 (f := .free "sorted") rfl)
  have m_reversed := He.free_ok X G (c.d.fact 58 (f := .free "reversed") rfl)
  have r_PurseError := He.glo_ok X G (c.d.fact 59 (f := .glo "PurseError") rfl)
  have r_NUMBERS_BEHIND := He.glo_ok X G (c.d.fact 60 (f := .glo "NUMBERS_BEHIND") rfl)
  have r_Manual := He.glo_ok X G (c.d.fact 61 (f := .glo "Manual") rfl)
  obtain ⟨t0, n0⟩ := He.int_ok X G (c.d.fact 62 (f := .int "LONGEST_WORD" 8) rfl)
  obtain ⟨t1, n1⟩ := He.int_ok X G (c.d.fact 63 (f := .int "MOST_COINS" 3) rfl)
  have C : Mc K := ⟨He.cls_ok (c.d.fact 64 (f := .cls "Manual") rfl), He.noat_ok (c.d.fact 65 (f := .noat "Manual" "_manners") rfl), He.noat_ok (c.d.fact 66 (f := .noat "Manual" "_beginnings") rfl), He.noat_ok (c.d.fact 67 (f := .noat "Manual" "_ends") rfl)⟩
  have k0 := He.meth_ok (c.d.fact 68 (f := .meth "Manual" "manners") rfl)
  have k1 := He.meth_ok (c.d.fact 69 (f := .meth "Manual" "beginnings") rfl)
  have k2 := He.meth_ok (c.d.fact 70 (f := .meth "Manual" "ends") rfl)
  have kM := He.mkr_ok (c.d.fact 71 (f := .mkr "Manual") rfl)
  have e := hfa.symm.trans (He.glo_ok X G (c.d.fact 41 (f := .glo "law") rfl))
  cases e
  unfold more at MM
  simp only [List.all_cons, List.all_nil, id, Bool.and_true, Bool.and_eq_true, decide_eq_true_eq, errs, seven, isB] at MM
  obtain ⟨⟨W0, W1, W2, W3, W4⟩, AS, EX, KI, UP, vN, h_c, h_s, h_t, h_m, ⟨l1, l2, l3, l4⟩, ⟨q1, q2, q3, q4, q5, q6, q7⟩, ZK, ZF, hne, heq, hfn⟩ := MM
  have B : Nb K w mg := nb_of r_NUMBERS_BEHIND c vN
  have b := FunD.bindsA (ps := ["_law_script"]) F41 fun _ _ _ _ _ _ us hl => match us, hl with | [_], _ => rfl
  refine ⟨d41, fun s v => b s [v] rfl, fun base _ _ => ?_⟩
  have T : Tx P w K mg base := by
    obtain ⟨g0, E0⟩ := errB_ok W0
    obtain ⟨g1, E1⟩ := errB_ok W1
    obtain ⟨g2, E2⟩ := errB_ok W2
    obtain ⟨g3, E3⟩ := errB_ok W3
    obtain ⟨g4, E4⟩ := errB_ok W4
    exact ⟨ck_of in_InvalidWord I0 (He.glo_ok X G g0) E0, ck_of in_InvalidManners I1 (He.glo_ok X G g1) E1, ck_of in_InvalidRooms I2 (He.glo_ok X G g2) E2, ck_of in_InvalidManual I3 (He.glo_ok X G g3) E3, ck_of in_InvalidRoom I4 (He.glo_ok X G g4) E4⟩
  have Y : Ty K mg := ⟨r_PurseError, fun i hi => asksB_ok (rg AS hi), fun i j hi hj => of_decide_eq_true (rg (rg EX hi) hj), fun i j hi hj => of_decide_eq_true (rg (rg KI hi) hj), fun i hi => of_decide_eq_true (rg UP hi)⟩
  have M : My K := ⟨C, h_c, h_s, h_t, h_m⟩
  have N : MyT K := ⟨l1, l2, l3, l4⟩
  have MB : MyB K := ⟨q1, q2, q3, q4, q5, q6, q7⟩
  have Z : Far K := by
    obtain ⟨a1, a2, a3, a4, a5, a6, a7⟩ := ZK
    obtain ⟨b1, b2, b3, b4, b5, b6, b7⟩ := ZF
    refine ⟨fun T hT => ?_, fun T hT => ?_⟩
    · simp only [seven, List.mem_cons, List.not_mem_nil, or_false] at hT
      rcases hT with rfl | rfl | rfl | rfl | rfl | rfl | rfl <;> assumption
    · simp only [seven, List.mem_cons, List.not_mem_nil, or_false] at hT
      rcases hT with rfl | rfl | rfl | rfl | rfl | rfl | rfl <;> assumption
  have NN : NoNe K := hne
  have b0 := FunD.bindsN (ps := ["value"]) F0 fun _ _ _ _ _ _ us hl => match us, hl with | [_], _ => rfl
  have Gcount : Got P w K mg base 1 "is_count" ["value"] (spCnt K) := ⟨⟨_, _, ok_cnt F0 m_isinstance m_int m_bool, b0, F0.kp, g0⟩⟩
  have b1 := FunD.bindsN (ps := ["value", "length"]) F1 fun _ _ _ _ _ _ us hl => match us, hl with | [_, _], _ => rfl
  have Gtof : Got P w K mg base 1 "is_tuple_of" ["value", "length"] (spTof K) := ⟨⟨_, _, ok_tof F1 m_isinstance m_tuple m_len, b1, F1.kp, g1⟩⟩
  have b2 := FunD.bindsN (ps := ["value"]) F2 fun _ _ _ _ _ _ us hl => match us, hl with | [_], _ => rfl
  have Gwf : Got P w K mg base 1 "has_word_form" ["value"] (spWF K) := ⟨⟨_, _, ok_wf F2 n0 m_isinstance m_len m_str, b2, F2.kp, g2⟩⟩
  have b3 := FunD.bindsN (ps := ["value"]) F3 fun _ _ _ _ _ _ us hl => match us, hl with | [_], _ => rfl
  have Gef : Got P w K mg base 2 "has_effect_form" ["value"] (spEF K) := ⟨⟨_, _, ok_ef F3 Gcount B n1 m_isinstance m_len m_str m_tuple m_all, b3, F3.kp, g3⟩⟩
  have b4 := FunD.bindsN (ps := ["value"]) F4 fun _ _ _ _ _ _ us hl => match us, hl with | [_], _ => rfl
  have Gmf : Got P w K mg base 3 "has_manner_form" ["value"] (spMF K) := ⟨⟨_, _, ok_mf F4 Gtof Gef Gwf m_all, b4, F4.kp, g4⟩⟩
  have b5 := FunD.bindsN (ps := ["value"]) F5 fun _ _ _ _ _ _ us hl => match us, hl with | [_], _ => rfl
  have Gbf : Got P w K mg base 2 "has_book_form" ["value"] (spBF K) := ⟨⟨_, _, ok_bf F5 Gwf m_isinstance m_list m_all, b5, F5.kp, g5⟩⟩
  have b8 := FunD.bindsN (ps := ["values"]) F8 fun _ _ _ _ _ _ us hl => match us, hl with | [_], _ => rfl
  have Gun : Got P w K mg base 1 "are_unlike" ["values"] spUn := ⟨⟨_, _, ok_un F8 m_len m_set, b8, F8.kp, g8⟩⟩
  have Gut : Got P w K mg base 1 "are_unlike" ["values"] spUnT := ⟨⟨_, _, ok_unT F8 m_len m_set, b8, F8.kp, g8⟩⟩
  have b6 := FunD.bindsN (ps := ["value"]) F6 fun _ _ _ _ _ _ us hl => match us, hl with | [_], _ => rfl
  have Grf : Got P w K mg base 3 "has_rooms_form" ["value"] (spRF K) := ⟨⟨_, _, ok_rf F6 Gbf Gut, b6, F6.kp, g6⟩⟩
  have b7 := FunD.bindsN (ps := ["value"]) F7 fun _ _ _ _ _ _ us hl => match us, hl with | [_], _ => rfl
  have Gmsf : Got P w K mg base 4 "has_manners_form" ["value"] (spMsF K) := ⟨⟨_, _, ok_msf F7 Gmf Gun m_isinstance m_list m_all, b7, F7.kp, g7⟩⟩
  have GM : GotM P w K mg base 1 "manners" ["self"] (spMm K) := ⟨⟨_, _, ok_mm E1 C m_list, FunD.bindsN (ps := ["self"]) E1 fun _ _ _ _ _ _ us hl => (match us, hl with | [_], _ => rfl), k0⟩⟩
  have GB : GotM P w K mg base 1 "beginnings" ["self"] (spMb K) := ⟨⟨_, _, ok_mb E2 C m_list, FunD.bindsN (ps := ["self"]) E2 fun _ _ _ _ _ _ us hl => (match us, hl with | [_], _ => rfl), k1⟩⟩
  have GE : GotM P w K mg base 1 "ends" ["self"] (spMe K) := ⟨⟨_, _, ok_me E3 C m_list, FunD.bindsN (ps := ["self"]) E3 fun _ _ _ _ _ _ us hl => (match us, hl with | [_], _ => rfl), k2⟩⟩
  have FI := ok_in (mg := mg) (base := base) (P := P) (w := w) E0 T C Gmsf Grf m_sorted
  have GC : GotC P w K mg base := ⟨⟨_, _, kM, FI, FunD.bindsN (ps := pIn) E0 fun _ _ _ _ _ _ us hl => (match us, hl with | [_, _, _, _], _ => rfl), r_Manual⟩⟩
  have GCK : GotCK P w K mg base := ⟨⟨_, _, kM, FI, kb_in E0, r_Manual⟩⟩
  have O : OwnE P w K mg base := ⟨⟨_, _, ok_eq E4 M r_Manual m_isinstance, FunD.bindsN (ps := ["self", "other"]) E4 fun _ _ _ _ _ _ us hl => (match us, hl with | [_, _], _ => rfl), heq, hfn⟩⟩
  have b9 := FunD.bindsN (ps := ["manual"]) F9 fun _ _ _ _ _ _ us hl => match us, hl with | [_], _ => rfl
  have Gar : Got P w K mg base 2 "all_rooms" ["manual"] (spAR K) := ⟨⟨_, _, ok_ar F9 C GM GB GE m_set m_sorted, b9, F9.kp, g9⟩⟩
  have b10 := FunD.bindsN (ps := ["manual"]) F10 fun _ _ _ _ _ _ us hl => match us, hl with | [_], _ => rfl
  have Gaj : Got P w K mg base 2 "all_jobs" ["manual"] (spAJ K) := ⟨⟨_, _, ok_aj F10 C GM m_sorted, b10, F10.kp, g10⟩⟩
  have b11 := FunD.bindsN (ps := ["value"]) F11 fun _ _ _ _ _ _ us hl => match us, hl with | [_], _ => rfl
  have Gcw : GotX P w K mg base 3 "check_word" ["value"] (spCW K) := ⟨⟨_, _, ok_cw F11 T Gwf, b11, F11.kp, g11⟩⟩
  have b12 := FunD.bindsN (ps := ["manual", "value"]) F12 fun _ _ _ _ _ _ us hl => match us, hl with | [_, _], _ => rfl
  have Gcr : GotX P w K mg base 3 "check_room" ["manual", "value"] (spCR K) := ⟨⟨_, _, ok_cr F12 T Gwf Gar, b12, F12.kp, g12⟩⟩
  have b13 := FunD.bindsN (ps := ["value"]) F13 fun _ _ _ _ _ _ us hl => match us, hl with | [_], _ => rfl
  have Gcm : GotX P w K mg base 3 "check_manual" ["value"] (spCM K) := ⟨⟨_, _, ok_cm F13 T M r_Manual m_isinstance, b13, F13.kp, g13⟩⟩
  have b14 := FunD.bindsN (ps := ["manual"]) F14 fun _ _ _ _ _ _ us hl => match us, hl with | [_], _ => rfl
  have Gro : GotX P w K mg base 4 "rooms_of" ["manual"] (spRO K) := ⟨⟨_, _, ok_ro F14 Gcm Gar, b14, F14.kp, g14⟩⟩
  have b15 := FunD.bindsN (ps := ["manual"]) F15 fun _ _ _ _ _ _ us hl => match us, hl with | [_], _ => rfl
  have Gjo : GotX P w K mg base 4 "jobs_of" ["manual"] (spJO K) := ⟨⟨_, _, ok_jo F15 Gcm Gaj, b15, F15.kp, g15⟩⟩
  have b16 := FunD.bindsN (ps := pMA) F16 fun _ _ _ _ _ _ us hl => match us, hl with | [_, _, _], _ => rfl
  have Gma : GotX P w K mg base 4 "manners_at" pMA (spMA K) := ⟨⟨_, _, ok_ma F16 C Gcm Gcr Gcw GM, b16, F16.kp, g16⟩⟩
  have Kro : GotK P w K mg base (L2.CX P w) 4 "rooms_of" ["manual"] ["manual"] id (spRO K) := ⟨⟨_, _, ok_ro F14 Gcm Gar, FunD.kw F14 (ps := ["manual"]) (ks := ["manual"]) id (fun _ _ _ _ _ _ ws hl => match ws, hl with | [_], _ => rfl) (fun r _ => r), F14.kp, g14⟩⟩
  have Kjo : GotK P w K mg base (L2.CX P w) 4 "jobs_of" ["manual"] ["manual"] id (spJO K) := ⟨⟨_, _, ok_jo F15 Gcm Gaj, FunD.kw F15 (ps := ["manual"]) (ks := ["manual"]) id (fun _ _ _ _ _ _ ws hl => match ws, hl with | [_], _ => rfl) (fun r _ => r), F15.kp, g15⟩⟩
  have Kma : GotK P w K mg base (L2.CX P w) 4 "manners_at" pMA kAr roAr (spMA K) := ⟨⟨_, _, ok_ma F16 C Gcm Gcr Gcw GM, FunD.kw F16 (ps := pMA) (ks := kAr) roAr (fun _ _ _ _ _ _ ws hl => match ws, hl with | [_, _, _], _ => rfl) roAr_rel, F16.kp, g16⟩⟩
  have b19 := FunD.bindsN (ps := ["_law_purse_here", "_law_many"]) F19 fun _ _ _ _ _ _ us hl => match us, hl with | [_, _], _ => rfl
  have Gdr : Got P w K mg base 2 "_law_draw" ["_law_purse_here", "_law_many"] spDraw := ⟨⟨_, _, ok_draw F19 F18 g18 m_int m_range, b19, F19.kp, g19⟩⟩
  have b21 := FunD.bindsN (ps := ["_law_purse_here", "_law_some_here"]) F21 fun _ _ _ _ _ _ us hl => match us, hl with | [_, _], _ => rfl
  have Gone : Got P w K mg base 3 "_law_one_of" ["_law_purse_here", "_law_some_here"] spOne := ⟨⟨_, _, ok_one F21 (ok_draw F19 F18 g18 m_int m_range) b19 F19.kp g19 m_len, b21, F21.kp, g21⟩⟩
  have b20 := FunD.bindsN (ps := ["_law_script", "_law_few"]) F20 fun _ _ _ _ _ _ us hl => match us, hl with | [_, _], _ => rfl
  have Gpu : Got P w K mg base 2 "_law_purses" ["_law_script", "_law_few"] (spPurses K) := ⟨⟨_, _, ok_purses F20 F17 g17 m_sum m_int m_max m_min m_len m_range, b20, F20.kp, g20⟩⟩
  have b22 := FunD.bindsN (ps := ["_law_purse_here", "_law_some_here"]) F22 fun _ _ _ _ _ _ us hl => match us, hl with | [_, _], _ => rfl
  have Gsh : Got P w K mg base 3 "_law_shuffled" ["_law_purse_here", "_law_some_here"] spShuf := ⟨⟨_, _, ok_shuf F22 Gdr m_len, b22, F22.kp, g22⟩⟩
  have b24 := FunD.bindsN (ps := ["_law_purse_here"]) F24 fun _ _ _ _ _ _ us hl => match us, hl with | [_], _ => rfl
  have Gwd : Got P w K mg base 3 "_law_word" ["_law_purse_here"] spWord := ⟨⟨_, _, ok_word F24 (ok_draw F19 F18 g18 m_int m_range) b19 F19.kp g19 m_range, b24, F24.kp, g24⟩⟩
  have b25 := FunD.bindsN (ps := ["_law_purse_here", "_law_many"]) F25 fun _ _ _ _ _ _ us hl => match us, hl with | [_, _], _ => rfl
  have Gwds : Got P w K mg base 4 "_law_words" ["_law_purse_here", "_law_many"] spWords := ⟨⟨_, _, ok_words F25 (ok_draw F19 F18 g18 m_int m_range) b19 F19.kp g19 (ok_word F24 (ok_draw F19 F18 g18 m_int m_range) b19 F19.kp g19 m_range) b24 F24.kp g24 m_range m_len m_list, b25, F25.kp, g25⟩⟩
  have b26 := FunD.bindsN (ps := ["_law_purse_here"]) F26 fun _ _ _ _ _ _ us hl => match us, hl with | [_], _ => rfl
  have Gfx : Got P w K mg base 3 "_law_effect" ["_law_purse_here"] spEff := ⟨⟨_, _, ok_eff F26 Gdr m_int, b26, F26.kp, g26⟩⟩
  have b27 := FunD.bindsN (ps := nMan) F27 fun _ _ _ _ _ _ us hl => match us, hl with | [_, _, _], _ => rfl
  have Gmn : Got P w K mg base 4 "_law_manner" nMan spMan := ⟨⟨_, _, ok_man F27 Gone Gfx, b27, F27.kp, g27⟩⟩
  have b28 := FunD.bindsN (ps := ["_law_purse_here", "_law_rooms_here"]) F28 fun _ _ _ _ _ _ us hl => match us, hl with | [_, _], _ => rfl
  have Gso : Got P w K mg base 4 "_law_some" ["_law_purse_here", "_law_rooms_here"] spSome := ⟨⟨_, _, ok_some F28 Gdr Gone, b28, F28.kp, g28⟩⟩
  have b29 := FunD.bindsN (ps := pWo) F29 fun _ _ _ _ _ _ us hl => match us, hl with | [_, _, _, _], _ => rfl
  have Gwo : Got P w K mg base 5 "_law_world_of" pWo spWo := ⟨⟨_, _, ok_wo F29 Gdr Gone Gfx Gmn Gso m_len m_range, b29, F29.kp, g29⟩⟩
  have b30 := FunD.bindsN (ps := pWorld) F30 fun _ _ _ _ _ _ us hl => match us, hl with | [_, _, _, _], _ => rfl
  have Gworld : Got P w K mg base 6 "_law_world" pWorld spWorld := ⟨⟨_, _, ok_world F30 Gdr Gwds Gwo, b30, F30.kp, g30⟩⟩
  have b31 := FunD.bindsN (ps := ["_law_world_here"]) F31 fun _ _ _ _ _ _ us hl => match us, hl with | [_], _ => rfl
  have Glr : Got P w K mg base 1 "_law_rooms" ["_law_world_here"] spLR := ⟨⟨_, _, ok_lr F31 m_int m_sorted, b31, F31.kp, g31⟩⟩
  have b32 := FunD.bindsN (ps := ["_law_world_here"]) F32 fun _ _ _ _ _ _ us hl => match us, hl with | [_], _ => rfl
  have Glj : Got P w K mg base 1 "_law_jobs" ["_law_world_here"] spLJ := ⟨⟨_, _, ok_lj F32 m_int m_sorted, b32, F32.kp, g32⟩⟩
  have b23 := FunD.bindsN (ps := pEx) F23 fun _ _ _ _ _ _ us hl => match us, hl with | [_, _], _ => rfl
  have Gex : ∀ n, Got P w K mg base (n + 1) "_law_exact" pEx (spEx n) := fun n => by
    induction n with
    | zero => exact ⟨⟨_, _, ok_ex0 F23, b23, F23.kp, g23⟩⟩
    | succ n ih => exact ⟨⟨_, _, ok_ex_step F23 ih m_isinstance m_len m_all m_zip m_list m_tuple m_dict m_bool, b23, F23.kp, g23⟩⟩
  have Gem : ∀ n, Got P w K mg base (n + 1) "_law_exact" pEm (spEm K n) := fun n => by
    induction n with
    | zero => exact ⟨⟨_, _, ok_em0 F23, b23, F23.kp, g23⟩⟩
    | succ n ih => exact ⟨⟨_, _, ok_em_step F23 ih O M N m_isinstance m_len m_all m_zip m_list m_tuple m_dict m_bool, b23, F23.kp, g23⟩⟩
  have b33 := FunD.bindsN (ps := pTd) F33 fun _ _ _ _ _ _ us hl => match us, hl with | [_, _], _ => rfl
  have Gtd : Got P w K mg base 7 "_law_told" pTd (spTd K) := ⟨⟨_, _, ok_td F33 T Y C GC Gma Gro Gjo GM GB GE m_isinstance, b33, F33.kp, g33⟩⟩
  have b34 := FunD.bindsN (ps := pVy) F34 fun _ _ _ _ _ _ us hl => match us, hl with | [_, _, _], _ => rfl
  have Gvy : Got P w K mg base 9 "_law_very" pVy (spVy K) := ⟨⟨_, _, ok_vy F34 Gem m_isinstance m_list, b34, F34.kp, g34⟩⟩
  have b35 := FunD.bindsN (ps := pAl) F35 fun _ _ _ _ _ _ us hl => match us, hl with | [_, _], _ => rfl
  have Gal : Got P w K mg base 7 "_law_all_right" pAl (spAl K) := ⟨⟨_, _, ok_al F35 C GM GB GE Gro Gjo Glr Glj (Gex 5) m_sorted, b35, F35.kp, g35⟩⟩
  have b36 := FunD.bindsN (ps := pOt) F36 fun _ _ _ _ _ _ us hl => match us, hl with | [_, _], _ => rfl
  have Got_ : Got P w K mg base 4 "_law_others" pOt spOt := ⟨⟨_, _, ok_ot F36 Gfx Gsh m_len m_range m_int m_sorted, b36, F36.kp, g36⟩⟩
  have b37 := FunD.bindsN (ps := pUl) F37 fun _ _ _ _ _ _ us hl => match us, hl with | [_, _, _], _ => rfl
  have Gul : Got P w K mg base 7 "_law_unlike_right" pUl (spUl K) := ⟨⟨_, _, ok_ul F37 C M MB NN Z O GC (Gex 5) m_list, b37, F37.kp, g37⟩⟩
  have b38 := FunD.bindsN (ps := pAr) F38 fun _ _ _ _ _ _ us hl => match us, hl with | [_, _], _ => rfl
  have Gatr : Got P w K mg base 10 "_law_at_right" pAr (spAr K) := ⟨⟨_, _, ok_atr F38 C M Glr Gma Kma (Gex 4) Gvy Gtd m_sorted, b38, F38.kp, g38⟩⟩
  have b39 := FunD.bindsN (ps := pRf) F39 fun _ _ _ _ _ _ us hl => match us, hl with | [_, _, _], _ => rfl
  have Grfr : Got P w K mg base 10 "_law_refused_right" pRf (spRf K) := ⟨⟨_, _, ok_rfr F39 M N Z Gdr Gvy Gtd m_len m_tuple, b39, F39.kp, g39⟩⟩
  have RS : Rs P w K mg base := ⟨C, M, NN, O, GC, GCK, Gdr, Gworld, Gsh, Gal, GM, GB, GE, Kro, Kjo, Gex 5, Gul, Got_, Gatr, Grfr, m_list, m_range, m_sorted, m_reversed⟩
  have b40 := FunD.bindsN (ps := ["_law_purse_here"]) F40 fun _ _ _ _ _ _ us hl => match us, hl with | [_], _ => rfl
  have Grt : Got P w K mg base 11 "_law_right" ["_law_purse_here"] spRt := ⟨⟨_, _, ok_rt F40 RS, b40, F40.kp, g40⟩⟩
  exact fnG (ok_law F41 Gpu Grt M NN O GC Gro Gjo)
end L2.K03
set_option Elab.async false
set_option linter.all false
set_option maxRecDepth 100000
set_option maxHeartbeats 0
open PySem PySem.W PySem.Calls PyProof.Rows
theorem PySem.Challenge.cw_withinbooks_k03_manuals_kept_and_compare_holds : PySem.Challenge.rw_withinbooks_k03_manuals_kept_and_compare.Holds := by
  w_on; o_law
  refine HandSHeadRun.head_any (r := L2.K03.R) (q := view L2.K03.R.prog [57]) (H := L2.K03.hk) (ob := L2.K03.ob) (M := 9000) (loose := L2.K03.loose) (d := HandSHeadRun.topDef L2.K03.R.prog 57) (kwd := []) L2.K03.ob_eq
    (by kernel_rfl) (fun s => by kernel_rfl) L2.K03.run (by kernel_rfl) (by kernel_rfl) (by kernel_rfl) (by rfl) (by first | assumption | decide +kernel) (by decide +kernel) ⟨rfl, rfl, rfl, rfl, rfl, by decide +kernel⟩ ?hw ?hc
  case hw => w_witness2
  case hc =>
    refine L2.EV.walk_ofG (l := PySem.Challenge.rw_withinbooks_k03_manuals_kept_and_compare) (n := 63) (k := 12) (x := "_law_script") rfl (by decide) (by kernel_rfl) ⟨rfl, by decide, by decide⟩ ?F
    intro w mg fa h Y G hmg0
    obtain ⟨K, KX, c, m⟩ := Y
    have hmg : mg ("law" : PySem.Str) = some (.ref fa) := by
      have e : (HandSHeadRun.topDef L2.K03.R.prog 57).name = ("law" : PySem.Str) := by kernel_rfl
      rw [← e]
      exact hmg0
    obtain ⟨fd, hb, hF⟩ := L2.K03.facts (P := (PySem.Challenge.rw_withinbooks_k03_manuals_kept_and_compare).prog) (w := w) KX G hmg c m
    exact ⟨K, fd, L2.K03.spLaw K, KX, hb, fun H a ns hl _ hS => ⟨a, ns, rfl, hS, hl, fun _ => rfl⟩, hF⟩
