import PyProof.Rows.All
import Wide.All
import OpenK.AllK
import Wide.FinOn
import HandS.ForExc
import HandS.ExcInit
import HandS.ExcValue
import HandS.ExcField
import HandS.ExcIs
import HandS.IsInst
import HandS.Defaults
import KE.KExcIs
import HandS.Dict
import HandS.EndBits
import PyProof.ReprRoads
import HandS.ForMost
import PySem.Challenge.RW_fullestrows_k02_errors
set_option Elab.async false
set_option linter.all false
set_option maxRecDepth 100000
set_option maxHeartbeats 4000000
/-! An own exception class over another own one, called with keywords: the steps of its making, with the keywords carried along. -/
namespace MadeKw
open PySem PySem.HandSPX PyProof.Rows PySem.Calls
section
variable {M : Model} {A : Around} {E : Value → Shared → Prop} {hp : Heap} {gn : Array GenState} {dn : Drawn} {tn : Nat} {on : OsState}
variable {nm q : Str} {C N : Addr} {bs bm bmB : List Value} {hdct : Bool} {sn : List Str} {sub : List Value} {ab : Bool}
variable {col : Option Bool} {dd : Option Addr} {k0 k1 k2 k3 k5 : Option Value} {B newId initId : String}

theorem check_new (F : ExcBaseFacts B newId initId bmB)
    (same : ∀ Y : String, bm.contains (.type Y) = bmB.contains (.type Y))
    {us : List Value} {kw : List (Str × Value)} {Q : Unit → Shared → Prop}
    (at_ : hp.get? C = some (excClassObj nm q C N bs bm hdct sn sub ab col dd k0 k1 k2 k3 k5 newId))
    (fin : Q () ⟨hp, gn, dn, tn, on⟩) :
    wpAny M A (checkBuiltinCall newId ⟨.ref C :: us, kw⟩) Q E ⟨hp, gn, dn, tn, on⟩ := by
  have base : (Value.ref C :: bm).contains (.type B) = true := by
    rw [List.contains_cons, same, F.hasB, Bool.or_true]
  have star := F.noStar
  simp only [checkBuiltinCall, F.newKind, F.newSplit, F.newRow]
  repeat
    first
    | refine wpAny_loadPart_at at_ ?_
    | (refine wpAny_isSubtype_exc at_ ?_
       rw [base])
    | refine wpAny_staticBase_exc at_ ?_
    | refine wpAny_madeBy_exc at_ ?_
    | simp only [bne_self_eq_false, Bool.false_eq_true, if_false]
    | wp_step
  exact fin
end
section
variable {prog : Program} {w : World} {A : Around} {E : Value → Shared → Prop} {R : Result → Shared → Prop}
variable {hp : Heap} {gn : Array GenState} {dn : Drawn} {tn : Nat} {on : OsState}
variable {nm q : Str} {C N : Addr} {bs bm bmB : List Value} {hdct : Bool} {sn : List Str} {sub : List Value} {ab : Bool}
variable {col : Option Bool} {dd : Option Addr} {k0 k1 k2 k3 k5 : Option Value} {B newId initId : String}

theorem new_made (F : ExcBaseFacts B newId initId bmB)
    (same : ∀ Y : String, bm.contains (.type Y) = bmB.contains (.type Y))
    {us : List Value} {kw : List (Str × Value)}
    (at_ : hp.get? C = some (excClassObj nm q C N bs bm hdct sn sub ab col dd k0 k1 k2 k3 k5 newId))
    (fin : R (.ok (.ret (.ref (hp.objs.size + 1)))) ⟨(hp.push (W.kdv_tup us)).push (excO C hp.objs.size), gn, dn, tn, on⟩)
    (few : us.length ≤ sizeLine) :
    codeAny (model prog w) A (.builtin newId ⟨.ref C :: us, kw⟩) R ⟨hp, gn, dn, tn, on⟩ := by
  have ends := F.ends
  have inB : (Value.ref C :: bm).contains (.type B) = true := by
    rw [List.contains_cons, same, F.hasB, Bool.or_true]
  have noA : (Value.ref C :: bm).contains (.type "AttributeError") = false := by
    rw [List.contains_cons, same, F.noAttr]
    rfl
  have noN : (Value.ref C :: bm).contains (.type "NameError") = false := by
    rw [List.contains_cons, same, F.noName]
    rfl
  refine codeAny_builtinAt F.entry ?_
  unfold Builtin.«BaseException.__new__»
  refine PySem.wpAt_bind ?_
  show PySem.wpAt _ _ _ (stack >>= _) _ _ _
  refine PySem.wpAt_bind (PySem.wpAt_stack fun p below => PySem.wpAt_of_wpAny ?_)
  wp_walk
  refine PySem.wpAt_of_wpAny ?_
  rw [F.owner]
  repeat
    first
    | with_reducible refine wpAny_madeHere_exc F.canon at_ ?_
    | with_reducible refine wpAny_loadPart_at at_ ?_
    | (with_reducible refine wpAny_isSubtype_exc at_ ?_
       first
       | rw [inB]
       | rw [noA]
       | rw [noN])
    | wp_step
  show R _ _
  rw [Heap.size_push]
  exact fin

theorem called_type (F : ExcBaseFacts B newId initId bmB)
    (same : ∀ Y : String, bm.contains (.type Y) = bmB.contains (.type Y))
    {us : List Value} {kw : List (Str × Value)} {fI : Addr} {Q : Fin → Shared → Prop}
    (at_ : hp.get? C = some (excClassObj nm q C N bs bm hdct sn sub ab col dd k0 k1 k2 k3 k5 newId))
    (li : W.Looks (model prog w) hp (typeLookup (.ref C) "__init__") (some (.ref fI)))
    (lb : ∀ self, W.Looks (model prog w) hp (bindSpecial (.ref fI) self) (.ref fI, [self]))
    (few : us.length ≤ sizeLine)
    (fin : codeAny (model prog w) A (.call (.ref fI) ⟨.ref (hp.objs.size + 1) :: us, kw⟩)
      (fun r s' => match r with
        | .ok (.ret v) => v = .none ∧ Q (.done (.ret (.ref (hp.objs.size + 1)))) s'
        | .ok _ => False
        | .error e => E e s')
      ⟨(hp.push (W.kdv_tup us)).push (excO C hp.objs.size), gn, dn, tn, on⟩) :
    wpAny (model prog w) A (Builtin.«type.__call__» ⟨.ref C :: us, kw⟩) Q E ⟨hp, gn, dn, tn, on⟩ := by
  repeat
    first
    | with_reducible refine wpAny_loadPart_at at_ ?_
    | with_reducible refine wpAny_madeBy_exc at_ ?_
    | wp_step
  refine codeAny_call_builtin_code (Code.quiet_builtin _ F.quiet) (check_new F same at_ ?_)
  refine new_made F same at_ ?_ few
  show wpAny _ _ _ _ _ _
  have old : ∀ b o, hp.get? b = some o → ((hp.push (W.kdv_tup us)).push (excO C hp.objs.size)).get? b = some o :=
    fun b o e => Heap.get?_push_of_some _ (Heap.get?_push_of_some _ e)
  have at1 := old _ _ at_
  have got : ((hp.push (W.kdv_tup us)).push (excO C hp.objs.size)).get? (hp.objs.size + 1) = some (excO C hp.objs.size) := by
    heap_get
  have self_ : (Value.ref C :: bm).contains (.ref C) = true := by simp
  have li1 := li.keeps old
  have lb1 := (lb (.ref (hp.objs.size + 1))).keeps old
  unfold isInstance
  repeat
    first
    | with_reducible refine wpAny_loadPart_at got ?_
    | (with_reducible refine wpAny_isSubtype_exc at1 ?_
       rw [self_])
    | wp_step
  show wpAny _ _ (typeLookup (.ref C) _) _ _ _
  refine li1.at ?_
  refine wpAny_holding (wpAny_bind (lb1.at ?_))
  refine wpAny_bind (wpAny_call (codeAny_mono fin fun r s' z => ?_))
  rcases r with e | (v | _ | _ | _) <;> first | exact z | exact z.elim | skip
  obtain ⟨rfl, z⟩ := z
  first
    | exact wpAny_pure (wpAny_pure z)
    | (wp_walk
       exact z)

theorem made (F : ExcBaseFacts B newId initId bmB)
    (same : ∀ Y : String, bm.contains (.type Y) = bmB.contains (.type Y))
    {us : List Value} {kw : List (Str × Value)} {fI : Addr}
    (at_ : hp.get? C = some (excClassObj nm q C N bs bm hdct sn sub ab col dd k0 k1 k2 k3 k5 newId))
    (li : W.Looks (model prog w) hp (typeLookup (.ref C) "__init__") (some (.ref fI)))
    (lb : ∀ self, W.Looks (model prog w) hp (bindSpecial (.ref fI) self) (.ref fI, [self]))
    (few : us.length ≤ sizeLine)
    (fin : codeAny (model prog w) (A.under (.builtin "type.__call__" ⟨.ref C :: us, kw⟩))
      (.call (.ref fI) ⟨.ref (hp.objs.size + 1) :: us, kw⟩) (W.InitBack (hp.objs.size + 1) R)
      ⟨(hp.push (W.kdv_tup us)).push (excO C hp.objs.size), gn, dn, tn, on⟩) :
    codeAny (model prog w) A (.call (.ref C) ⟨us, kw⟩) R ⟨hp, gn, dn, tn, on⟩ := by
  have f1 := tc_lookup
  have f2 := tc_bind (.ref C)
  have ty : (⟨hp, gn, dn, tn, on⟩ : Shared).TypeIs (.ref C) "type" := ⟨_, at_, rfl⟩
  refine codeAny_of_tree ?_
  show wpAny _ _ (callAny (.ref C) _) _ _ _
  repeat
    (any_goals
      (first
       | assumption
       | with_reducible refine wpAny_loadPart_at at_ ?_
       | wp_step))
  refine ⟨rfl, ?_⟩
  refine codeAny_call_builtin_at (Code.quiet_builtin _ (by decide +kernel)) entry_typeCall
    (wpAny_check_type_call_sub at_ (called_type F same at_ li lb few ?_))
  refine codeAny_mono fin fun r s' z => ?_
  rcases r with e | (v | _ | _ | _) <;> exact z
end
end MadeKw
set_option Elab.async false
set_option linter.all false
set_option maxRecDepth 100000
set_option maxHeartbeats 4000000
/-! Exceptions of own classes as plain values: made with and without arguments, their fields read, asked by isinstance. -/
namespace L2.XVal
open PySem PySem.Spec PyProof.Rows

theorem pe_imp {X : Cx} {e : Expr} {t t' : TE} (h : PE X e t) (w : ∀ σ H Q, t' σ H Q → t σ H Q) : PE X e t' :=
  ⟨fun pins s σ H Q I q => h.run pins s σ H Q I (w σ H Q q)⟩

/-- at a: an exception of the class at C whose fields are fs -/
def XAt (H : Hp) (a C : Addr) (fs : List (Str × V)) : Prop :=
  ∃ dx : Addr, H a = some (exo a C (some dx)) ∧ H dx = some (exd dx fs)
/-- at a: an exception of the class at C -/
def XIs (H : Hp) (a C : Addr) : Prop := H a = some (ExO (.ref C) a) ∨ ∃ fs, XAt H a C fs
theorem XAt.same {H H' : Hp} {a C : Addr} {fs : List (Str × V)} (x : XAt H a C fs) (s : Same H H') : XAt H' a C fs := by
  obtain ⟨dx, h1, h2⟩ := x
  exact ⟨dx, s _ _ h1, s _ _ h2⟩
theorem XIs.same {H H' : Hp} {a C : Addr} (x : XIs H a C) (s : Same H H') : XIs H' a C := by
  rcases x with x | ⟨fs, x⟩
  · exact .inl (s _ _ x)
  · exact .inr ⟨fs, x.same s⟩

/-! ### the making -/
/-- what the class's __init__ keeps: the fields are stored in a new dict, nothing else is touched -/
def spIni (K : PySem.W.Frag) (C : Addr) (m : Nat) (fl : List V → List (Str × V)) : Sp := fun vs H Q _ =>
  ∃ (a : Addr) (xs : List V), vs = .ref a :: xs ∧ xs.length = m ∧ H a = some (exo a C none) ∧
    ∀ dx H', H dx = none → dx ≠ a → (∀ b o, H b = some o → b ≠ a → H' b = some o) →
      H' a = some (exo a C (some dx)) → H' dx = some (exd dx (fl xs)) → Q .non H'

section
variable {X : Cx} {pins : List (Addr × Obj)} {σ : St} {H : Hp} {s : Shared} {CX : CXT} {k n : Nat} {C fI : Addr} {fd : FuncData}
variable {ps ks : List Str} {sp : Sp} {x : Str} {p pos : Pos} {e : Expr} {es : List Expr} {kws : List Keyword} {t tk : TA}
variable {g : List Value → List Value → List Value} {gV : List V → List V → List V}

theorem run_new {Q : VK} {us ws : List Value} {vs zs : List V} (T : OexC X.K C)
    (iC : PySem.W.findIn X.K (.ref C) "__init__" = some (some (.ref fI)))
    (tI : PySem.W.typeIn X.K (.ref fI) = some (.type "function"))
    (G : FnOk X.prog X.w X.K X.mg X.base CX k fI fd ps sp) (hr : Room (k + 1) X.A)
    (hb : KBn X.K fd ps (n + 1) ks g gV) (hx : Passes CX X fun _ _ _ => False) (few : n ≤ 1000)
    (I : Inv X pins σ H s) (r : Vals vs us) (rz : Vals zs ws) (l1 : vs.length = n) (l2 : zs.length = ks.length)
    (h : ∀ a, H a = none → sp (gV (.ref a :: vs) zs) (upd H a (exo a C none)) (fun v H2 => v = .non ∧ Q (.ref a) H2) fun _ _ _ => False) :
    wpAny (model X.prog X.w) X.A (call (.ref C) us (ks.zip ws)) (EP X pins σ Q) X.xe s := by
  obtain ⟨nm, q, N, bs, bm, sn, sub, ab, col, dd, k0, k1, k2, k3, k5, hC, hbm⟩ := T.cls
  obtain ⟨hp, gn, dr, tk', os⟩ := s
  have up : hp.objs.size ≤ hp.objs.size + 1 := Nat.le_succ _
  have hn : H (hp.objs.size + 1) = none := I.hok.fresh up
  have hq := h (hp.objs.size + 1) hn
  have keep : ∀ b o, hp.get? b = some o →
      ((hp.push (PySem.W.kdv_tup us)).push (PySem.HandSPX.excO C hp.objs.size)).get? b = some o :=
    fun b o e => Heap.get?_push_of_some _ (Heap.get?_push_of_some _ e)
  have got : ((hp.push (PySem.W.kdv_tup us)).push (PySem.HandSPX.excO C hp.objs.size)).get? (hp.objs.size + 1) =
      some (PySem.HandSPX.excO C hp.objs.size) := by heap_get
  have I2 : Inv X pins σ (upd H (hp.objs.size + 1) (exo (hp.objs.size + 1) C none))
      ⟨(hp.push (PySem.W.kdv_tup us)).push (PySem.HandSPX.excO C hp.objs.size), gn, dr, tk', os⟩ :=
    I.laid (t' := tk') keep up (exo_ok got)
  have r1 : Vals (V.ref (hp.objs.size + 1) :: vs) (Value.ref (hp.objs.size + 1) :: us) := .cons rfl r
  have r2 := hb.rel r1 rz
  have e1 : (Value.ref (hp.objs.size + 1) :: us).length = n + 1 := r1.length.symm.trans (congrArg Nat.succ l1)
  have e2 : ws.length = ks.length := rz.length.symm.trans l2
  have hus : us.length ≤ sizeLine := by
    have := r.length
    rw [sizeLine_eq]
    omega
  refine wpAny_call (MadeKw.made PySem.F.excBase_ValueError (fun Y => PySem.HandSPX.refsVE_contains Y bm hbm) (I.kIn _ _ hC)
    (PySem.W.looks_findIn I.kIn iC) (fun self => PySem.W.bind_fn I.kIn self tI) hus ?_)
  refine codeAny_mono (G.run _ X.stack _ _ ⟨Value.ref (hp.objs.size + 1) :: us, ks.zip ws⟩
    (g (Value.ref (hp.objs.size + 1) :: us) ws) _ _ (fun _ _ _ => False) (hr.make C us (ks.zip ws))
    (I2.env0.make C us (ks.zip ws)) (hb.to _ (Value.ref (hp.objs.size + 1) :: us) ws I2.kIn e1 e2) r2 hq) fun r s' hq' => ?_
  cases r with
  | error er => exact hx pins σ _ _ er s' I2 hq'
  | ok fl =>
    cases fl with
    | ret u =>
      obtain ⟨v, H', I3, rv, ev, q3⟩ := I2.after hq'
      subst ev
      exact ⟨rv, ⟨V.ref (hp.objs.size + 1), H', I3, rfl, q3⟩⟩
    | next => exact False.elim hq'
    | brk => exact False.elim hq'
    | cont => exact False.elim hq'

/-- C(e, .., k = v, ..): where __init__ keeps spIni -/
def tNew (C : Addr) (n m : Nat) (fl : List V → List (Str × V)) (gV : List V → List V → List V) (t tk : TA) : TE := fun σ H Q =>
  t σ H fun vs H1 => tk σ H1 fun zs H2 => vs.length = n ∧ zs.length = m ∧
    ∀ a H3, Same H2 H3 → XAt H3 a C (fl ((gV (.ref a :: vs) zs).tail)) → Q (.ref a) H3
theorem ini_of {K : PySem.W.Frag} {H : Hp} {Q : VK} {vs zs : List V} {j : Nat} {fl : List V → List (Str × V)} {gV : List V → List V → List V}
    (hg : ∀ a, ∃ xs, gV (.ref a :: vs) zs = .ref a :: xs ∧ xs.length = j)
    (h : ∀ a H3, Same H H3 → XAt H3 a C (fl ((gV (.ref a :: vs) zs).tail)) → Q (.ref a) H3) (a : Addr) (hn : H a = none) :
    spIni K C j fl (gV (.ref a :: vs) zs) (upd H a (exo a C none)) (fun v H2 => v = .non ∧ Q (.ref a) H2) fun _ _ _ => False := by
  obtain ⟨xs, e, l⟩ := hg a
  refine ⟨a, xs, e, l, upd_same, fun dx H' hd ne keep h1 h2 => ⟨rfl, h a H' (fun b o z => ?_) ⟨dx, h1, ?_⟩⟩⟩
  · have nb : b ≠ a := ne_of_none z hn
    exact keep b o (by rw [upd_ne nb]; exact z) nb
  · rw [e]
    exact h2

variable {fl : List V → List (Str × V)} {j : Nat}
theorem pe_newP (T : OexC X.K C) (iC : PySem.W.findIn X.K (.ref C) "__init__" = some (some (.ref fI)))
    (tI : PySem.W.typeIn X.K (.ref fI) = some (.type "function"))
    (G : FnOk X.prog X.w X.K X.mg X.base CX k fI fd ps (spIni X.K C j fl)) (hr : Room (k + 1) X.A)
    (hb : KBn X.K fd ps (n + 1) [] g gV) (hx : Passes CX X fun _ _ _ => False) (few : n ≤ 1000)
    (hg : ∀ a (vs zs : List V), vs.length = n → zs.length = 0 → ∃ xs, gV (.ref a :: vs) zs = .ref a :: xs ∧ xs.length = j)
    (gl : Gl X x) (hm : X.mg x = some (.ref C)) (ha : PA X (e :: es) t)
    (hdb : (x == ("__debug__" : Str)) = false := by decide)
    (he : starEach (e :: es) X.env = (false, eval e X.env) :: starEach es X.env := by rfl)
    (hpl : (backTo pos (starEach es X.env)).any (·.1) = false := by rfl) :
    PE X (.Call (.Name x p) (e :: es) [] pos) (tNew C n 0 fl gV t tNil) := by
  refine ⟨fun pins s σ H Q I h => ?_⟩
  refine wpAny_Call_Name_kw (ld_glob I gl hm ?_ hdb)
  refine PySem.W.callWith_K (h₀ := X.base) I.ok.mod.kin T.kC (thn (ha.run pos pins s σ H _ I h) fun us s1 ⟨vs, H1, I1, r, q⟩ => ⟨I1.kIn, ?_⟩) he hpl
  obtain ⟨l1, _, q⟩ := q
  exact run_new (ks := []) (ws := []) (zs := []) T iC tI G hr hb hx few I1 r .nil l1 rfl
    (ini_of (fun a => hg a vs [] l1 rfl) q)
theorem pe_newK (T : OexC X.K C) (iC : PySem.W.findIn X.K (.ref C) "__init__" = some (some (.ref fI)))
    (tI : PySem.W.typeIn X.K (.ref fI) = some (.type "function"))
    (G : FnOk X.prog X.w X.K X.mg X.base CX k fI fd ps (spIni X.K C j fl)) (hr : Room (k + 1) X.A)
    (hb : KBn X.K fd ps 1 ks g gV) (hx : Passes CX X fun _ _ _ => False)
    (hg : ∀ a (vs zs : List V), vs.length = 0 → zs.length = ks.length → ∃ xs, gV (.ref a :: vs) zs = .ref a :: xs ∧ xs.length = j)
    (gl : Gl X x) (hm : X.mg x = some (.ref C)) (hk : PK X kws tk)
    (hall : (backToKw pos (keywordEach kws X.env)).all (·.1.isSome) = true := by rfl)
    (hks : (backToKw pos (keywordEach kws X.env)).filterMap (·.1) = ks := by rfl)
    (hdb : (x == ("__debug__" : Str)) = false := by decide)
    (hpl : ((backTo pos (starEach [] X.env)).any (·.1) || (backToKw pos (keywordEach kws X.env)).any (·.1.isNone)) = false := by rfl) :
    PE X (.Call (.Name x p) [] kws pos) (tNew C 0 ks.length fl gV tNil tk) := by
  refine ⟨fun pins s σ H Q I h => ?_⟩
  refine wpAny_Call_Name_kw (ld_glob I gl hm ?_ hdb)
  refine PySem.W.callWith_KW0 (h₀ := X.base) I.ok.mod.kin T.kC hall ?_ hpl
  refine thn (hk.run pos pins s σ H _ I h) fun ws s2 ⟨zs, H2, I2, rz, l1, l2, q2⟩ => ⟨I2.kIn, ?_⟩
  rw [hks]
  exact run_new (us := []) (vs := []) T iC tI G hr hb hx (Nat.zero_le _) I2 .nil rz rfl l2 (ini_of (fun a => hg a [] zs rfl l2) q2)
end

/-! ### a class without an __init__ of its own -/
section
variable {X : Cx} {C : Addr} {bmB : List Value} {B newId initId : String} {x : Str} {p pos : Pos}
theorem pe_new0 (F : ExcBaseFacts B newId initId bmB) (q : PySem.W.excIn X.K C bmB newId = true) (gC : X.mg x = some (.ref C))
    (kC : PySem.W.keepIn X.K (.ref C) = true) (gl : Gl X x) (hdb : (x == ("__debug__" : Str)) = false := by decide) :
    PE X (.Call (.Name x p) [] [] pos) (fun _ H Q => ∀ a H3, Same H H3 → XIs H3 a C → Q (.ref a) H3) := by
  refine ⟨fun pins s σ H Q I h => ?_⟩
  refine wpAny_Call_Name_kw (ld_glob I gl gC ?_ hdb)
  refine PySem.W.callWith_K0 I.kIn kC ?_
  show wpAny _ _ (call (.ref C) []) _ _ _
  obtain ⟨bm, N, nm, qn, bs, hdct, sn, sub, ab, col, dd, k0, k1, k2, k3, k5, mN, hC, hN, hni, T⟩ := exc_obj I.kIn q
  refine wpAny_call_exc_subT F T hC hN hni (fun h' a hm => ?_) (by show 0 ≤ sizeLine; exact Nat.zero_le _)
  have hn : H a = none := I.hok.gone hm.new
  obtain ⟨t, ht, _, _⟩ := hm.there
  have J := I.laidN (t' := s.toks) hm.keeps hm.new hn (exO_ok (H := upd H a (ExO (.ref C) a)) ht ⟨rfl, rfl⟩ rfl rfl rfl (show 4 < 6 by decide))
  exact ⟨.ref a, _, J, rfl, h a _ (fun b o e => by rw [upd_ne (ne_of_none e hn)]; exact e) (.inl upd_same)⟩
end

/-! ### its fields, its class -/
section
variable {X : Cx} {pins : List (Addr × Obj)} {σ : St} {H : Hp} {s : Shared} {a C : Addr}
theorem XAt.inst {fs : List (Str × V)} (I : Inv X pins σ H s) (x : XAt H a C fs) :
    ∃ (oe od : Obj) (mA : Str → Option Value), PySem.W.InstAt s.heap a oe C (some od) ∧ (∀ f, PySem.W.lookIn f od = some (mA f)) ∧ ∀ f, RelO (fs.lookup f) (mA f) := by
  obtain ⟨dx, h1, h2⟩ := x
  obtain ⟨t1, ho⟩ := exo_at I.hok h1
  obtain ⟨mA, hns, hr⟩ := exd_at I.hok h2
  obtain ⟨od, hod, hl⟩ := lookIn_ns hns
  exact ⟨_, od, mA, ⟨ho, rfl, rfl, hod⟩, hl, hr⟩
theorem XIs.inst (I : Inv X pins σ H s) (x : XIs H a C) : ∃ oe od, PySem.W.InstAt s.heap a oe C od := by
  rcases x with x | ⟨fs, x⟩
  · obtain ⟨⟨oe, vs, he, hz, hd, _⟩, _, _⟩ := I.hok a _ x
    refine ⟨oe, none, ⟨he, hz.1, ?_, ?_⟩⟩
    · unfold PySem.W.notCls
      rw [hd]
    · rw [hz.2]
      trivial
  · obtain ⟨oe, od, _, J, _⟩ := x.inst I
    exact ⟨oe, some od, J⟩

/-- e.f of such an exception -/
def tXf (K : PySem.W.Frag) (f : Str) (te : TE) : TE := fun σ H Q => te σ H fun x H1 =>
  ∃ (a C : Addr) (fs : List (Str × V)) (v : V), x = .ref a ∧ XAt H1 a C fs ∧ XfC K C ∧ PySem.W.findIn K (.ref C) f = some none ∧ fs.lookup f = some v ∧ Q v H1
theorem pe_xf {e : Expr} {te : TE} {f : Str} {pos : Pos} (he : PE X e te)
    (hb : attributeBase e f X.env (eval e X.env) = eval e X.env := by rfl) : PE X (.Attribute e f pos) (tXf X.K f te) := by
  refine ⟨fun pins s σ H Q I h => ?_⟩
  refine attr_of hb (thn (he.run pins s σ H _ I h) fun u s1 ⟨x, H1, I1, rx, a, C, fs, v, ex, ea, T, hno, l, q⟩ => ?_)
  subst ex
  obtain rfl : u = Value.ref a := rx
  obtain ⟨oe, od, mA, J, hl, hr⟩ := ea.inst I1
  have z := hr f
  rw [l] at z
  obtain ⟨u, hu, ru⟩ := RelO.some_of z
  refine HandSPX.exc_get I1.kIn J T.ga T.gg T.exC (PySem.W.findObj_own T.hdC hno rfl ?_) (handed_of ru) ⟨v, H1, I1.tok _, ru, q⟩
  rw [hl, hu]

/-- isinstance(e, c) -/
def rXis (K : PySem.W.Frag) : List V → Hp → VK → Prop := fun xs H Q =>
  ∃ (a C : Addr) (c : V) (cv : Value) (b : Bool), xs = [.ref a, c] ∧ XIs H a C ∧ ExcC K C ∧ ClsV c cv ∧ PySem.W.kitOne K (.ref C) cv = some b ∧ Q (.bl b) H
theorem call_xis : CallR X (.builtin "isinstance") (rXis X.K) := by
  intro pins s σ H xs us Q I r h
  obtain ⟨a, C, c, cv, b, rfl, ea, T, kc, e, q⟩ := h
  obtain ⟨u1, u2, rfl, r1, r2⟩ := vals2 r
  have e2 := kc.eq r2
  subst e2
  obtain rfl : u1 = Value.ref a := r1
  obtain ⟨oe, od, J⟩ := ea.inst I
  have hcl : (PySem.W.clsIn X.K C).isSome = true := by
    obtain ⟨cd, hc, _⟩ := PySem.W.any_some T.hd
    rw [hc]
    rfl
  exact PySem.W.kia_one (PySem.W.kitx_exc hcl T.hg T.hk T.hs T.ha T.hn T.ht T.hm) I.kIn J e (fun z => nomatch z)
    fun tk => ⟨.bl b, H, I.tok tk, rfl, q⟩
end
end L2.XVal
set_option Elab.async false
set_option linter.all false
set_option maxRecDepth 100000
set_option maxHeartbeats 4000000
/-! The text of a value by repr; powers of great ints; defs that are called where no text is being made of anything. -/
namespace L2.XVal
open PySem PySem.Spec PyProof.Rows

/-! ### repr -/
theorem sameL {K : PySem.W.Frag} {H H' : Hp} {a : Addr} {xs : List V} (e : Same H H') (h : SqL K H a xs) : SqL K H' a xs := e.seq h
theorem sameT {K : PySem.W.Frag} {H H' : Hp} {a : Addr} {xs : List V} (e : Same H H') (h : SqT K H a xs) : SqT K H' a xs := by
  rcases h with (h | ⟨o, h⟩) | h
  · exact .inl (.inl (e _ _ h))
  · exact .inl (.inr ⟨o, e _ _ h⟩)
  · exact .inr h
mutual
theorem dpSame {K : PySem.W.Frag} {H H' : Hp} (e : Same H H') : ∀ (d : PyData) (v : V), Dp K H v d → Dp K H' v d
  | .none, _, h => by cases h; exact .non
  | .bool b, _, h => by cases h; exact .bl b
  | .int i, _, h => by cases h; exact .int i
  | .str x, _, h => by cases h; exact .str x
  | .list ds, _, h => by
    cases h with
    | lst hs ha => exact .lst (sameL e hs) (dpSameAll e ds _ ha)
  | .tuple ds, _, h => by
    cases h with
    | tup hs ha => exact .tup (sameT e hs) (dpSameAll e ds _ ha)
  | .dict _, _, h => by cases h
theorem dpSameAll {K : PySem.W.Frag} {H H' : Hp} (e : Same H H') : ∀ (ds : List PyData) (vs : List V), DpAll K H vs ds → DpAll K H' vs ds
  | [], _, h => by cases h; exact .nil
  | d :: ds, _, h => by
    cases h with
    | cons h1 h2 => exact .cons (dpSame e d _ h1) (dpSameAll e ds _ h2)
end
/-- a dict of one text by one text -/
def One (H : Hp) (x : V) (d : PyData) : Prop := ∃ (a : Addr) (k v : Str), x = .ref a ∧ H a = some (.dK [(Sum.inr k, .str v)]) ∧ d = .dict [(.str k, .str v)]
/-- repr of the value x is the text z -/
def Shw (K : PySem.W.Frag) (H : Hp) (x : V) (z : Str) : Prop :=
  ∃ d : PyData, d.shown = z ∧ d.showable = true ∧ d.shown.length ≤ 1000 ∧ d.depth ≤ 5 ∧ PyData.strOk z = true ∧ ((Dp K H x d ∧ d.hasDict = false) ∨ One H x d)
theorem Shw.same {K : PySem.W.Frag} {H H' : Hp} {x : V} {z : Str} (h : Shw K H x z) (e : Same H H') : Shw K H' x z := by
  obtain ⟨d, h1, h2, h3, h4, h0, h5⟩ := h
  refine ⟨d, h1, h2, h3, h4, h0, ?_⟩
  rcases h5 with ⟨h5, h6⟩ | ⟨a, k, v, ex, ha, ed⟩
  · exact .inl ⟨dpSame e d _ h5, h6⟩
  · exact .inr ⟨a, k, v, ex, e _ _ ha, ed⟩
section
variable {X : Cx} {pins : List (Addr × Obj)} {σ : St} {H : Hp} {s : Shared}
theorem one_reads {x : V} {d : PyData} {u : Value} (I : Inv X pins σ H s) (h : One H x d) (r : RelV x u) :
    ∃ as, Reads s.heap u d as ∧ sysModules ∉ as := by
  obtain ⟨a, k, v, rfl, ha, rfl⟩ := h
  obtain rfl : u = Value.ref a := r
  obtain ⟨_, hns, vs, rv, m⟩ : ([(Sum.inr k, V.str v)] : List (Key × V)).length ≤ sizeLine ∧ (a == sysModules) = false ∧
    ∃ vs, KV [((Sum.inr k : Key), V.str v)] vs ∧ s.heap.DictOf (mixKind X.prog X.w) a vs := I.hok a _ ha
  cases rv with
  | @cons _ b _ bs hb hn =>
    cases hn
    obtain ⟨bk, bv⟩ := b
    obtain ⟨e1, r2⟩ := hb
    dsimp only at e1 r2
    subst e1
    obtain ⟨t2, rfl⟩ := r2
    obtain ⟨o, es, ep, ho, hx, hd, hrest⟩ := m
    obtain ⟨_, hp, _⟩ := hrest
    obtain ⟨l⟩ := es
    cases hp with
    | @cons en _ l' _ hk hv hn =>
      cases hn
      have hk2 : keyIs (Sum.inr k) en.key = true := hk
      rcases keyIs_shape hk2 with ⟨i, t, z, _⟩ | ⟨y, t, z, ek⟩
      · cases z
      · cases z
        have rk : ReadsAll s.heap [en.key] [PyData.str k] ([] ++ []) := .cons (by rw [ek]; exact .str k t) .nil
        have rw2 : ReadsAll s.heap [en.val] [PyData.str v] ([] ++ []) := .cons (by rw [hv]; exact .str v t2) .nil
        refine ⟨_, Reads.dict (kvs := [(PyData.str k, PyData.str v)]) ho hx.1 hd rk rw2, ?_⟩
        intro z
        have z2 : sysModules = a := by simpa using z
        rw [z2] at hns
        simp at hns
theorem Shw.ok {K : PySem.W.Frag} {x : V} {z : Str} (h : Shw K H x z) : PyData.strOk z = true := by
  obtain ⟨_, _, _, _, _, q, _⟩ := h
  exact q
theorem shw_reads {x : V} {z : Str} {u : Value} (I : Inv X pins σ H s) (h : Shw X.K H x z) (r : RelV x u) :
    ∃ d as, Reads s.heap u d as ∧ d.shown = z ∧ d.showable = true ∧ d.shown.length ≤ 1000 ∧ d.depth ≤ 5 ∧ (d.hasDict = true → sysModules ∉ as) := by
  obtain ⟨d, h1, h2, h3, h4, h0, h5⟩ := h
  rcases h5 with ⟨h5, h6⟩ | h5
  · obtain ⟨as, q⟩ := Dp.reads I d x u h5 r
    exact ⟨d, as, q, h1, h2, h3, h4, fun z => by rw [h6] at z; cases z⟩
  · obtain ⟨as, q, no⟩ := one_reads I h5 r
    exact ⟨d, as, q, h1, h2, h3, h4, fun _ => no⟩
def rRepr (K : PySem.W.Frag) : List V → Hp → VK → Prop := fun xs H Q => ∃ (x : V) (z : Str), xs = [x] ∧ Shw K H x z ∧ Q (.str z) H
theorem call_repr (hg : X.A.guards = some []) (hu : X.A.units + 64 < cLine) : CallR X (.builtin "repr") (rRepr X.K) := by
  intro pins s σ H xs us Q I r h
  obtain ⟨x, z, rfl, hs, q⟩ := h
  obtain ⟨u, rfl, rx⟩ := vals1 r
  obtain ⟨d, as, hr, rfl, h2, h3, h4, h5⟩ := shw_reads I hs rx
  have sz : d.shown.length ≤ sizeLine := by rw [sizeLine_eq]; omega
  cases hr with
  | none => exact PySem.P.repr_of_none ⟨.str _, H, I.tok _, ⟨_, rfl⟩, q⟩
  | bool b => exact PySem.P.repr_of_bool ⟨.str _, H, I.tok _, ⟨_, rfl⟩, q⟩
  | int i t => exact PySem.P.repr_of_int (by simpa [PyData.showable] using h2) ⟨.str _, H, I.tok _, ⟨_, rfl⟩, q⟩
  | str y t => exact PySem.P.repr_of_str ⟨.str _, H, I.tok _, ⟨_, rfl⟩, q⟩ sz
  | list h1' h2' h3' h4' =>
    exact repr_of_reads' (Reads.list h1' h2' h3' h4') h2 h5 hg (by omega) (fun _ _ e => e)
      (fun h' u tk k => ⟨.str _, H, I.kept k, ⟨_, rfl⟩, q⟩) sz
  | tuple h1' h2' h3' h4' =>
    exact repr_of_reads' (Reads.tuple h1' h2' h3' h4') h2 h5 hg (by omega) (fun _ _ e => e)
      (fun h' u tk k => ⟨.str _, H, I.kept k, ⟨_, rfl⟩, q⟩) sz
  | dict h1' h2' h3' h4' h5' =>
    exact repr_of_reads' (Reads.dict h1' h2' h3' h4' h5') h2 h5 hg (by omega) (fun _ _ e => e)
      (fun h' u tk k => ⟨.str _, H, I.kept k, ⟨_, rfl⟩, q⟩) sz

/-! ### a great int's power -/
theorem op_powB : OpR X (binaryOp .Pow) (rI (fun i j => 0 ≤ j ∧ (Builtin.Int.intBits i : Int) * j ≤ 2 ^ 27) fun i j => .int (i ^ j.toNat)) :=
  opI fun _ _ _ _ _ _ _ hc q => pow_int hc.1 hc.2 q
end

/-! ### defs called where nothing is being shown -/
structure FnG (P : Program) (w : World) (K : PySem.W.Frag) (mg : Str → Option Value) (base : Heap) (CX : CXT) (k : Nat) (f : Addr)
    (fd : FuncData) (ps : List Str) (sp : Sp) : Prop where
  len : ∀ vs H Q E, sp vs H Q E → vs.length = ps.length
  run : ∀ (A : Around) (outer : List Env) (s : Shared) (H : Hp) (args : Args) (us : List Value) (vs : List V) (Q : VK) (E : XK),
    A.guards = some [] → Room k A → Env0 P w K mg base A outer s H → BindsTo s fd args (ps.zip us) → Vals vs us → sp vs H Q E →
    codeAny (model P w) A (.call (.ref f) args) (CR CX outer P w H s Q E) s
section
variable {P : Program} {w : World} {K : PySem.W.Frag} {mg : Str → Option Value} {base : Heap} {k : Nat} {f : Addr} {fd : FuncData}
variable {x qual : Str} {st : Stmt} {N ps : List Str} {sp : Sp}
theorem fnG_ok (F : Fun K x qual st f fd) (S : FnScope N ps (defScope st)) (len : ∀ vs H Q E, sp vs H Q E → vs.length = ps.length)
    (body : ∀ (cdv : Value) (A : Around) (outer : List Env) (s : Shared) (H : Hp) (vs : List V) (Q : VK) (E : XK), A.guards = some [] →
      Room k (A.deeper (envOfC qual (defScope st) s.heap.objs.size f cdv)) → sp vs H Q E →
      ∃ t, PSs (cxOf CX0 P w K mg base N qual (defScope st) f cdv A outer s H E).nox (defBody st) t ∧ t { nx := fun _ H' => Q .non H', rt := Q } (start N vs) H) :
    FnG P w K mg base CX0 (k + 1) f fd ps sp := by
  obtain ⟨oc, od, kV, doc, pm, an, cdv, ct, osl, rfl, lk, hcd⟩ := F.ex
  refine ⟨len, fun A outer s H args us vs Q E hg hr e0 hb r hsp => ?_⟩
  have nvs := len _ _ _ _ hsp
  have inK : K.In s.heap := e0.mod.kin.keeps fun b o e => (e0.bs b o e).1
  have nolim : s.heap.NoLimit := e0.mod.nolimit.keeps fun b o e => (e0.bs b o e).1
  have kinds : ∀ y ∈ ps.zip us, (defScope st).names.lookup y.1 = some .local ∨
      ((defScope st).names.lookup y.1 = some .cell ∧ ((cellsFrom (s.heap.objs.size + 1) (defScope st).names []).lookup y.1).isSome = true) := by
    rintro ⟨n, v⟩ hy
    rcases S.par n (List.of_mem_zip hy).1 with q | q
    · exact .inl q
    · exact .inr ⟨q, PySem.W.cellsFrom_some _ _ _ (.inl q)⟩
  refine codeAny_call_function hr.depth (inK _ _ lk) rfl S.co S.gen rfl (PySem.W.codeRec_of inK hcd) (hb _ _ _ _ ?_)
  refine wpAny_newFunctionEnv_cells S.kind kinds fun env he s1 ic => ?_
  subst he
  refine ⟨nolim.keeps ic.toInCall.keep, codeAny_func ?_⟩
  obtain ⟨t, ht, hq⟩ := body cdv A outer s H vs Q E hg (hr.deeper _) hsp
  have I : Inv (cxOf CX0 P w K mg base N qual (defScope st) f cdv A outer s H E) [] (start N vs) H s1 := inv_start S hr.hd e0 nvs r ic
  refine wpAny_mono (ht.nox.run [] s1 (start N vs) H _ I hq) (fun fl s' hs => ?_) fun e s' hs => hs
  cases fl with
  | ret u =>
    obtain ⟨v, σ', H', J, rv, q⟩ := hs
    exact ⟨v, H', J.os, J.bare, J.base, J.hok, rv, q⟩
  | next =>
    obtain ⟨σ', H', J, q⟩ := hs
    exact ⟨V.non, H', J.os, J.bare, J.base, J.hok, rfl, q⟩
  | brk =>
    obtain ⟨_, _, _, q⟩ := hs
    exact False.elim q
  | cont =>
    obtain ⟨_, _, _, q⟩ := hs
    exact False.elim q
end
section
variable {X : Cx} {CX : CXT} {k : Nat} {f : Addr} {fd : FuncData} {ps : List Str} {sp : Sp} {E : XK} {x : Str} {p pos : Pos} {e : Expr} {es : List Expr} {t : TA}
theorem pe_callG (F : FnG X.prog X.w X.K X.mg X.base CX k f fd ps sp) (hgd : X.A.guards = some []) (hr : Room k X.A) (gl : Gl X x)
    (hm : X.mg x = some (.ref f)) (hk : PySem.W.keepIn X.K (.ref f) = true) (hb : Binds X.K fd ps []) (hx : Passes CX X E)
    (ha : PA X (e :: es) t) (hdb : (x == ("__debug__" : Str)) = false := by decide)
    (he : starEach (e :: es) X.env = (false, eval e X.env) :: starEach es X.env := by rfl)
    (hpl : (backTo pos (starEach es X.env)).any (·.1) = false := by rfl) :
    PE X (.Call (.Name x p) (e :: es) [] pos) (tCall sp [] E t) := by
  refine ⟨fun pins s σ H Q I h => ?_⟩
  refine wpAny_Call_Name_kw (ld_glob I gl hm ?_ hdb)
  refine PySem.W.callWith_K (h₀ := X.base) I.ok.mod.kin hk (thn (ha.run pos pins s σ H _ I h) fun us s1 ⟨vs, H1, I1, r, q⟩ => ⟨I1.kIn, ?_⟩) he hpl
  have q' : sp (vs ++ []) H1 Q E := q
  rw [List.append_nil] at q'
  have hl : us.length = ps.length := by
    rw [← r.length]
    exact F.len _ _ _ _ q'
  have hbt := hb s1 us I1.kIn (by rw [List.append_nil]; exact hl)
  rw [List.append_nil] at hbt
  refine wpAny_call (codeAny_mono (F.run X.A X.stack s1 H1 ⟨us, []⟩ us vs Q E hgd hr I1.env0 hbt r q') fun r s' hq => ?_)
  cases r with
  | error er => exact hx pins σ H1 s1 er s' I1 hq
  | ok fl =>
    cases fl with
    | ret u => exact I1.after hq
    | next => exact False.elim hq
    | brk => exact False.elim hq
    | cont => exact False.elim hq
end
end L2.XVal
set_option Elab.async false
set_option linter.all false
set_option maxRecDepth 100000
set_option maxHeartbeats 4000000
/-! The law's end for a def whose promise asks that no text is being made of anything (callerA's guards are empty). -/
namespace L2.XVal
open PySem PySem.Spec PyProof.Rows
section
variable {P : Program} {w : World} {K : PySem.W.Frag} {mg mb : Str → Option Value} {k : Nat} {fa a : Addr} {fd : FuncData} {x : Str}
variable {sp : Sp} {s₁ : Shared} {vs : List Value} {ns : List Int}

/-- from one abstract heap that tracks the script at most -/
theorem law_from (inK : K.In s₁.heap) (glob : s₁.heap.Ns mainGlobals mg) (blt : s₁.heap.Ns builtinsNs mb)
    (boot : ∀ x : Str, x ≠ "__name__" → mb x = bootBuiltins x) (nolim : s₁.heap.NoLimit) (nogen : s₁.gens = #[])
    (script : s₁.heap.get? a = some { cls := .type "list", data := .seq vs.toArray }) (room : Room k callerA)
    (F : ∀ base : Heap, K.In base → base.Ns mainGlobals mg → FnG P w K mg base CX0 k fa fd [x] sp)
    (bind : ∀ (s : Shared) (u : Value), BindsTo s fd ⟨[u], []⟩ [(x, u)])
    (H : Hp) (only : Only H) (ok : HOk P w H s₁.heap) (alone : ∀ b, H b ≠ none → b = a) (out : H a ≠ none → K.lookup a = none)
    (promise : sp [.ref a] H (fun v _ => v = .bl true) fun _ _ _ => False) :
    codeAny (model P w) callerA (.call (.ref fa) ⟨[.ref a], []⟩)
      (fun r s' => r = .ok (.ret (.bool true)) ∧ OldK s₁.heap s'.heap ∧ s'.os = s₁.os ∧ AllBare s'.gens) s₁ := by
  have under : ∀ {b : Addr} {o : Obj}, s₁.heap.get? b = some o → H b = none → (hidT s₁.heap H).get? b = some o :=
    fun e n => hidT_get e n
  have untracked : ∀ {b : Addr} {o : Obj} {es : Array DictEntry} {ep : Nat}, s₁.heap.get? b = some o → o.data = .dict es ep → H b = none := by
    intro b o es ep e d
    cases q : H b with
    | none => rfl
    | some u =>
      have z : b = a := alone b (by rw [q]; simp)
      rw [z, script] at e
      have e2 := Option.some.inj e
      rw [← e2] at d
      cases d
  have names : ∀ {b : Addr} {m : Str → Option Value}, s₁.heap.Ns b m → (hidT s₁.heap H).Ns b m := by
    rintro b m ⟨o, es, ep, e, d, r⟩
    exact ⟨o, es, ep, under e (untracked e d), d, r⟩
  have inB : K.In (hidT s₁.heap H) := by
    intro b o e
    refine under (inK b o e) ?_
    cases q : H b with
    | none => rfl
    | some u =>
      have z : b = a := alone b (by rw [q]; simp)
      rw [z, out (by rw [← z, q]; simp)] at e
      cases e
  have md : Mod K mg (hidT s₁.heap H) := by
    obtain ⟨mc, h1, h2⟩ := nolim
    exact ⟨inB, names glob, ⟨mb, names blt, boot⟩, ⟨mc, names h1, h2⟩⟩
  have env0 : Env0 P w K mg (hidT s₁.heap H) callerA [] s₁ H :=
    ⟨rfl, md, fun b o e => of_hidT e, Nat.le_of_eq (hidT_size _ _), trivial, fun b hb => (by cases hb), ok, .of_eq nogen⟩
  refine codeAny_mono ((F _ inB (names glob)).run callerA [] s₁ H ⟨[.ref a], []⟩ [.ref a] [.ref a] _ _ rfl room env0
    (bind s₁ (.ref a)) (.cons rfl .nil) promise) fun r s' h => ?_
  cases r with
  | error e => exact (show False from h).elim
  | ok fl =>
    cases fl with
    | next => exact False.elim h
    | brk => exact False.elim h
    | cont => exact False.elim h
    | ret u =>
      obtain ⟨v, H', os, bare, un, ok', rv, q⟩ := h
      have q' : v = .bl true := q
      subst q'
      obtain rfl : u = Value.bool true := rv
      refine ⟨rfl, OldK.of_keep fun b o e => ?_, os, bare⟩
      cases q : H b with
      | none => exact un.keep b o e q (fun z => by cases z) (fun z => by cases z)
      | some u =>
        rcases only b with z | ⟨ob, xs, z⟩
        · rw [q] at z
          cases z
        · obtain ⟨e1, _⟩ := ok b _ z
          obtain ⟨e2, _⟩ := ok' b _ (un.frzs b ob _ z)
          rw [e] at e1
          cases e1
          exact e2

theorem law_callG (inK : K.In s₁.heap) (glob : s₁.heap.Ns mainGlobals mg) (blt : s₁.heap.Ns builtinsNs mb)
    (boot : ∀ x : Str, x ≠ "__name__" → mb x = bootBuiltins x) (nolim : s₁.heap.NoLimit) (nogen : s₁.gens = #[])
    (script : s₁.heap.get? a = some { cls := .type "list", data := .seq vs.toArray }) (hi : IntsAre vs ns) (few : ns.length ≤ sizeLine)
    (room : Room k callerA)
    (F : ∀ base : Heap, K.In base → base.Ns mainGlobals mg → FnG P w K mg base CX0 k fa fd [x] sp)
    (bind : ∀ (s : Shared) (u : Value), BindsTo s fd ⟨[u], []⟩ [(x, u)])
    (promise : ∀ H : Hp, Only H → SqL K H a (ns.map V.int) → sp [.ref a] H (fun v _ => v = .bl true) fun _ _ _ => False) :
    codeAny (model P w) callerA (.call (.ref fa) ⟨[.ref a], []⟩)
      (fun r s' => r = .ok (.ret (.bool true)) ∧ OldK s₁.heap s'.heap ∧ s'.os = s₁.os ∧ AllBare s'.gens) s₁ := by
  have rv := vals_ints hi
  have lens := hi.length
  cases hk : K.lookup a with
  | some o =>
    have e := inK a o hk
    rw [script] at e
    cases e
    have here : SqL K (fun _ => none) a (ns.map V.int) :=
      .inr ⟨_, vs.toArray, _, hk, rfl, rfl, rfl, by rw [List.size_toArray, lens]; exact few, by simpa using rv⟩
    have only : Only fun _ => none := fun _ => .inl rfl
    refine law_from inK glob blt boot nolim nogen script room F bind (fun _ => none) only (fun b u z => ?_) (fun b z => absurd rfl z)
      (fun z => absurd rfl z) (promise _ only here)
    have z' : (none : Option HO) = some u := z
    cases z'
  | none =>
    let H0 : Hp := fun b => if b = a then some (.frz { cls := .type "list", data := .seq vs.toArray } (.lst (ns.map V.int))) else none
    have at_ : H0 a = some (.frz { cls := .type "list", data := .seq vs.toArray } (.lst (ns.map V.int))) := if_pos rfl
    have off : ∀ b, b ≠ a → H0 b = none := fun b hb => if_neg hb
    have only : Only H0 := by
      intro b
      by_cases hb : b = a
      · exact .inr ⟨_, _, by rw [hb]; exact at_⟩
      · exact .inl (off b hb)
    refine law_from inK glob blt boot nolim nogen script room F bind H0 only (fun b u z => ?_) (fun b z => ?_) (fun _ => hk)
      (promise _ only (.inl (.inr ⟨_, at_⟩)))
    · by_cases hb : b = a
      · rw [hb, at_] at z
        cases z
        rw [hb]
        exact ⟨script, by rw [List.length_map]; exact few, vs, _, rv, script⟩
      · rw [off b hb] at z
        cases z
    · by_cases hb : b = a
      · exact hb
      · exact absurd (off b hb) z
end

theorem walkG {l : PySem.W.OpenLaw} {n k : Nat} {q : Program} {loose : List Str} {XP : (Str → Option Value) → Heap → Prop}
    {YP : World → Heap → Prop} {d : DefRec} {K : Params → PySem.W.Frag} {sp : World → Sp} {x : Str}
    (most : l.most = some n) (few : n ≤ sizeLine) (nodef : d.params.defaults = []) (room : Room k callerA)
    (inK : ∀ (w : World) (h : Heap), YP w h → (K w.params).In h)
    (F : ∀ (w : World) (mg : Str → Option Value) (fa : Addr) (h : Heap), (K w.params).In h → h.Ns mainGlobals mg → mg d.name = some (.ref fa) →
      ∃ fd : FuncData, (∀ (s : Shared) (u : Value), BindsTo s fd ⟨[u], []⟩ [(x, u)]) ∧
        ∀ base : Heap, (K w.params).In base → base.Ns mainGlobals mg → FnG l.prog w (K w.params) mg base CX0 k fa fd [x] (sp w))
    (promise : ∀ (w : World) (H : Hp) (a : Addr) (ns : List Int), ns.length ≤ n → (∀ z ∈ ns, Builtin.Int.intBits z ≤ 1048576) → Only H →
      SqL (K w.params) H a (ns.map V.int) → sp w [.ref a] H (fun v _ => v = .bl true) fun _ _ _ => False) :
    PySem.W.WalkO q loose XP YP l.row.toRowW d [] (fun f vs => PySem.call f vs) := by
  refine Att.attach_callB most nodef fun w s₀ s₁ mg mb fa o pm cd doc a vs ns G Y ho hd hcd hmg hobj hints hlen hbits hg => ?_
  have KX := inK w _ Y
  obtain ⟨fd, hb, hF⟩ := F w mg fa _ KX G.T.g hmg
  exact law_callG KX G.T.g G.T.b G.T.builtins G.T.nolimit hg hobj hints (Nat.le_trans hlen few) room hF hb
    fun H hO hS => promise w H a ns hlen hbits hO hS
end L2.XVal
set_option Elab.async false
set_option linter.all false
set_option maxRecDepth 100000
set_option maxHeartbeats 4000000
/-! The law on errors: its draws and its values. -/
namespace L2.K02
open PySem PySem.Spec PyProof.Rows L2.XVal

def top (i : Nat) : Stmt := PySem.Challenge.pw_fullestrows_k02_errors.main.body.getD i (.Pass ⟨0, 0, 0, 0⟩)
abbrev sIni (i : Nat) : Stmt := inClass (top i) 0
abbrev sSource : Stmt := top 27
abbrev sDraw : Stmt := top 28
abbrev sValue : Stmt := top 29
abbrev sMade : Stmt := top 30
abbrev sKept : Stmt := top 31
abbrev sClasses : Stmt := top 32
abbrev sLaw : Stmt := top 33

/-! ### numbers -/
open Builtin.Int (intBits)
theorem mod_pos {x y : Int} (h : 0 < y) : 0 ≤ x.fmod y ∧ x.fmod y < y := by
  rw [Int.fmod_eq_emod_of_nonneg x (Int.le_of_lt h)]
  exact ⟨Int.emod_nonneg x (by omega), Int.emod_lt_of_pos x h⟩
theorem small_bits {x : Int} (h0 : 0 ≤ x) (h : x < 1099511627776) : intBits x ≤ 40 := by
  refine PySem.intBits_le_iff.mpr ?_
  have e : (2 : Nat) ^ 40 = 1099511627776 := by decide
  rw [e]
  omega
theorem big_ok {c n : Int} (hc : intBits c ≤ 1048576) (h0 : 0 ≤ n) (hn : n ≤ 1000) :
    (intBits (c * 39119 + n * 40699 + 12011) : Int) * 3 ≤ 2 ^ 27 := by
  have h1 : intBits (c * 39119) ≤ 1048576 + 40 := PySem.intBits_mul_le hc (small_bits (by omega) (by omega))
  have h2 : intBits (n * 40699) ≤ 40 := small_bits (by omega) (by omega)
  have h3 : intBits (12011 : Int) ≤ 40 := small_bits (by omega) (by omega)
  have h4 := PySem.intBits_add_le h1 h2
  have h5 := PySem.intBits_add_le h4 h3
  have e : (2 : Int) ^ 27 = 134217728 := by decide
  rw [e]
  have h6 : max (max (1048576 + 40) 40 + 1) 40 + 1 = 1048618 := by decide
  rw [h6] at h5
  omega
theorem small_ok {x : Int} (h0 : 0 ≤ x) (h : x < 1099511627776) : (intBits x : Int) * 3 ≤ 2 ^ 27 := by
  have := small_bits h0 h
  have e : (2 : Int) ^ 27 = 134217728 := by decide
  rw [e]
  omega

/-! ### the source of draws -/
def SrcAt (H : Hp) (a : Addr) (c : Int) (n : Nat) : Prop := ∃ d : Int, H a = some (.lst [.int c, .int d, .int n])
def spSource : Sp := fun vs H Q _ => ∃ c : Int, vs = [.int c] ∧ ∀ a, H a = none → Q (.ref a) (upd H a (.lst [.int c, .int c, .int 0]))
def spDraw : Sp := fun vs H Q _ => ∃ (a : Addr) (c : Int) (n : Nat) (m : Int), vs = [.ref a, .int m] ∧ SrcAt H a c n ∧ n ≤ 900 ∧ intBits c ≤ 1048576 ∧
  0 < m ∧ m ≤ 1000 ∧ ∀ (r : Int) (H' : Hp), 0 ≤ r → r < m → SrcAt H' a c (n + 1) → (∀ b o, H b = some o → b ≠ a → H' b = some o) → Q (.int r) H'

section
variable {P : Program} {w : World} {K : PySem.W.Frag} {mg : Str → Option Value} {base : Heap}
theorem scS : FnScope ["_law_cell"] ["_law_cell"] (defScope sSource) := ⟨rfl, rfl, rfl, by decide +kernel, rfl, by decide +kernel, by decide +kernel⟩
theorem ok_source {f : Addr} {fd : FuncData} (F : Fun K "_law_source" "_law_source" sSource f fd) : FnOk P w K mg base CX0 1 f fd ["_law_cell"] spSource := by
  refine F.ok scS (fun vs H Q E h => ?_) (fun cdv A outer s H vs Q E hr h => ?_)
  · obtain ⟨c, rfl, _⟩ := h
    rfl
  · obtain ⟨c, rfl, k⟩ := h
    refine ⟨_, pss_one (ps_ret (pe_lst (pa_cons (pv 0) (pa_cons (pv 0) (pa_cons pe_int pa_nil))))), ?_⟩
    exact ⟨_, rfl, _, rfl, (by show 3 ≤ sizeLine; decide), fun a ha => k a ha⟩
theorem scD : FnScope ["_law_source_here", "_law_limit", "_law_digit", "_law_mixed"] ["_law_source_here", "_law_limit"] (defScope sDraw) :=
  ⟨rfl, rfl, rfl, by decide +kernel, rfl, by decide +kernel, by decide +kernel⟩
theorem ok_draw {f : Addr} {fd : FuncData} (F : Fun K "_law_draw" "_law_draw" sDraw f fd) (mi : mg "int" = none) :
    FnOk P w K mg base CX0 1 f fd ["_law_source_here", "_law_limit"] spDraw := by
  refine F.ok scD (fun vs H Q E h => ?_) (fun cdv A outer s H vs Q E hr h => ?_)
  · obtain ⟨a, c, n, m, rfl, _⟩ := h
    rfl
  · obtain ⟨a, c, n, m, rfl, ⟨d, hs⟩, hn, hc, m0, m1, k⟩ := h
    refine ⟨_, pss_cons (ps_asg (pe_op op_add (pe_ix ix_list (pv 0) pe_int (fun _ _ => rfl)) pe_int) (pg_sub (pv 0) pe_int set_list))
      (pss_cons (ps_if (pt_cmpR op_ge (pe_ix ix_list (pv 0) pe_int (fun _ _ => rfl)) (pe_op op_pow pe_int pe_int) (nomark _))
        (pss_cons (ps_set (i := 2) scD.nd rfl (Or.inl rfl) (pe_op op_modN (pe_callTy call_int1 (by rfl) mi (by decide +kernel) (pa_cons (pe_ix ix_list (pv 0) pe_int (fun _ _ => rfl)) pa_nil)) (pv 1)))
        (pss_cons (ps_asg (pe_op op_fdivN (pe_ix ix_list (pv 0) pe_int (fun _ _ => rfl)) (pv 1)) (pg_sub (pv 0) pe_int set_list))
        (pss_one (ps_ret (pv 2))))) pss_nil)
      (pss_cons (ps_set (i := 3) scD.nd rfl (Or.inl rfl) (pe_op op_modN (pe_callTy call_int1 (by rfl) mi (by decide +kernel) (pa_cons (pe_op op_powB (pe_callTy call_int1 (by rfl) mi (by decide +kernel) (pa_cons (pe_op op_add (pe_op op_add (pe_op op_mul (pe_callTy call_int1 (by rfl) mi (by decide +kernel) (pa_cons (pe_ix ix_list (pv 0) pe_int (fun _ _ => rfl)) pa_nil)) pe_int) (pe_op op_mul (pe_ix ix_list (pv 0) pe_int (fun _ _ => rfl)) pe_int)) pe_int) pa_nil)) pe_int) pa_nil)) pe_int))
      (pss_cons (ps_set (i := 3) scD.nd rfl (Or.inl rfl) (pe_op op_modN (pe_callTy call_int1 (by rfl) mi (by decide +kernel) (pa_cons (pe_op op_powB (pe_callTy call_int1 (by rfl) mi (by decide +kernel) (pa_cons (pe_op op_add (pv 3) (pe_op op_mul (pe_op op_mul (pe_ix ix_list (pv 0) pe_int (fun _ _ => rfl)) (pe_ix ix_list (pv 0) pe_int (fun _ _ => rfl))) pe_int)) pa_nil)) pe_int) pa_nil)) pe_int))
      (pss_one (ps_ret (pe_op op_modN (pe_op op_fdivN (pv 3) pe_int) (pv 1))))))), ?_⟩
    -- src[2] = src[2] + 1
    refine ⟨_, rfl, a, _, _, _, rfl, rfl, SqL.of hs, rfl, _, _, rfl, rfl, _, rfl, a, _, _, _, rfl, rfl, hs, rfl, ?_⟩
    -- if src[0] >= 10 ** 18
    refine ⟨_, rfl, a, _, _, _, rfl, rfl, SqL.of upd_same, rfl, _, _, rfl, rfl, ⟨by decide, by decide, by decide⟩, _, _, rfl, rfl, _, rfl, ?_⟩
    refine ite2 (fun _ => ?_) (fun _ => ?_)
    · refine ⟨_, rfl, a, _, _, _, rfl, rfl, SqL.of upd_same, rfl, .inl ⟨_, rfl, ?_⟩⟩
      refine ⟨_, rfl, _, _, rfl, rfl, by omega, ?_⟩
      refine ⟨_, rfl, a, _, _, _, rfl, rfl, SqL.of upd_same, rfl, _, rfl, _, _, rfl, rfl, ⟨by omega, by omega⟩, _, rfl, a, _, _, _, rfl, rfl, upd_same, rfl, ?_⟩
      refine ⟨_, rfl, k _ _ (mod_pos m0).1 (mod_pos m0).2 ⟨_, upd_same⟩ fun b o e nb => ?_⟩
      rw [upd_ne nb, upd_ne nb]
      exact e
    · -- mixed = int(int(int(src[0]) * 39119 + src[2] * 40699 + 12011) ** 3) % 2147483647
      refine ⟨_, rfl, a, _, _, _, rfl, rfl, SqL.of upd_same, rfl, .inl ⟨_, rfl, ?_⟩⟩
      refine ⟨_, _, rfl, rfl, .inr ⟨by decide, by decide⟩, _, rfl, a, _, _, _, rfl, rfl, SqL.of upd_same, rfl, _, _, rfl, rfl, .inr ⟨by decide, by decide⟩, _, _, rfl, rfl, _, _, rfl, rfl, .inl ⟨_, rfl, ?_⟩⟩
      refine ⟨_, _, rfl, rfl, ⟨by decide, big_ok hc (by omega) (by omega)⟩, .inl ⟨_, rfl, _, _, rfl, rfl, (by show (2147483647 : Int) ≠ 0; decide), ?_⟩⟩
      have b1 := mod_pos (x := (c * 39119 + ((n : Int) + 1) * 40699 + 12011) ^ (3 : Int).toNat) (y := 2147483647) (by decide)
      -- mixed = int(int(mixed + src[2] * src[2] * 7919) ** 3) % 2147483629
      refine ⟨_, rfl, _, rfl, a, _, _, _, rfl, rfl, SqL.of upd_same, rfl, _, rfl, a, _, _, _, rfl, rfl, SqL.of upd_same, rfl, _, _, rfl, rfl, .inr ⟨by omega, by omega⟩, _, _, rfl, rfl, .inr ⟨by decide, by decide⟩, _, _, rfl, rfl, .inl ⟨_, rfl, ?_⟩⟩
      have sq0 : 0 ≤ ((n : Int) + 1) * ((n : Int) + 1) := Int.mul_nonneg (by omega) (by omega)
      have sq1 : ((n : Int) + 1) * ((n : Int) + 1) ≤ 901 * 901 := Int.mul_le_mul (by omega) (by omega) (by omega) (by omega)
      have ok2 : (intBits (((c * 39119 + ((n : Int) + 1) * 40699 + 12011) ^ Int.toNat 3).fmod 2147483647 + ((n : Int) + 1) * ((n : Int) + 1) * 7919) : Int) * 3 ≤ 2 ^ 27 :=
        small_ok (by omega) (by omega)
      refine ⟨_, _, rfl, rfl, ⟨by decide, ok2⟩, .inl ⟨_, rfl, _, _, rfl, rfl, (by show (2147483629 : Int) ≠ 0; decide), ?_⟩⟩
      -- return mixed // 64 % limit
      refine ⟨_, rfl, _, _, rfl, rfl, ⟨by decide, by decide⟩, _, rfl, _, _, rfl, rfl, (by show m ≠ 0; omega), ?_⟩
      refine k _ _ (mod_pos m0).1 (mod_pos m0).2 ⟨_, upd_same⟩ fun b o e nb => ?_
      rw [upd_ne nb]
      exact e
/-! ### the values -/
/-- repr of x is z, also when more is laid -/
def spValue (K : PySem.W.Frag) : Sp := fun vs H Q _ => ∃ (a : Addr) (c : Int) (n : Nat), vs = [.ref a] ∧ SrcAt H a c n ∧ n ≤ 900 ∧ intBits c ≤ 1048576 ∧
  ∀ (x : V) (z : Str) (H' : Hp), (∀ H2 : Hp, (∀ b o, b ≠ a → H' b = some o → H2 b = some o) → Shw K H2 x z) → SrcAt H' a c (n + 1) → (∀ b o, H b = some o → b ≠ a → H' b = some o) → Q x H'
theorem shwD {K : PySem.W.Frag} {H : Hp} {x : V} (d : PyData) (h : Dp K H x d)
    (b : (d.showable && decide (d.shown.length ≤ 1000) && decide (d.depth ≤ 5) && PyData.strOk d.shown && !d.hasDict) = true) : Shw K H x d.shown := by
  simp only [Bool.and_eq_true, decide_eq_true_eq, Bool.not_eq_true'] at b
  exact ⟨d, rfl, b.1.1.1.1, b.1.1.1.2, b.1.1.2, b.1.2, .inl ⟨h, b.2⟩⟩
theorem shwO {K : PySem.W.Frag} {H : Hp} {a : Addr} {k v : Str} (h : H a = some (.dK [(Sum.inr k, .str v)]))
    (b : ((PyData.dict [(.str k, .str v)]).showable && decide ((PyData.dict [(.str k, .str v)]).shown.length ≤ 1000) && decide ((PyData.dict [(.str k, .str v)]).depth ≤ 5) && PyData.strOk (PyData.dict [(.str k, .str v)]).shown) = true) :
    Shw K H (.ref a) (PyData.dict [(.str k, .str v)]).shown := by
  simp only [Bool.and_eq_true, decide_eq_true_eq] at b
  exact ⟨_, rfl, b.1.1.1, b.1.1.2, b.1.2, b.2, .inr ⟨a, k, v, rfl, h, rfl⟩⟩
theorem same_new {H : Hp} {p : Addr} {o : HO} (n : H p = none) : Same H (upd H p o) := fun b u e => by
  rw [upd_ne (ne_of_none e n)]
  exact e
theorem same_new2 {H : Hp} {p : Addr} {o o' : HO} (n : H p = none) : Same H (upd (upd H p o) p o') := fun b u e => by
  rw [upd_ne (ne_of_none e n), upd_ne (ne_of_none e n)]
  exact e
theorem scV : FnScope ["_law_source_here"] ["_law_source_here"] (defScope sValue) := ⟨rfl, rfl, rfl, by decide +kernel, rfl, by decide +kernel, by decide +kernel⟩
theorem ok_value {f fD : Addr} {fd fdD : FuncData} (F : Fun K "_law_value" "_law_value" sValue f fd) (FD : Fun K "_law_draw" "_law_draw" sDraw fD fdD)
    (bD : Binds K fdD ["_law_source_here", "_law_limit"] []) (mi : mg "int" = none) (mD : mg "_law_draw" = some (.ref fD)) :
    FnOk P w K mg base CX0 2 f fd ["_law_source_here"] (spValue K) := by
  have GD : FnOk P w K mg base CX0 1 fD fdD ["_law_source_here", "_law_limit"] spDraw := ok_draw FD mi
  refine F.ok scV (fun vs H Q E h => ?_) (fun cdv A outer s H vs Q E hr h => ?_)
  · obtain ⟨a, c, n, rfl, _⟩ := h
    rfl
  · obtain ⟨a, c, n, rfl, ⟨d, hs⟩, hn, hc, k⟩ := h
    have hr1 : Room 1 _ := hr.mono (by decide)
    refine ⟨_, pss_one (ps_ret (pe_ix ix_list (pe_lst (pa_cons pe_str (pa_cons pe_str (pa_cons pe_non (pa_cons pe_int (pa_cons (pe_un un_neg pe_int) (pa_cons pe_bl
      (pa_cons (pe_tup (pa_cons pe_str (pa_cons pe_str pa_nil))) (pa_cons (pe_lst (pa_cons pe_str (pa_cons (pe_lst (pa_cons pe_str pa_nil)) pa_nil)))
      (pa_cons (pe_disp (pps_cons pe_str pe_str pps_nil) (by rfl) (by rfl) (fun z => by cases z) (by decide))
      (pa_cons (pe_op op_pow pe_int pe_int) pa_nil)))))))))))
      (pe_call GD hr1 (by rfl) mD FD.kp bD .nil pass0 (pa_cons (pv 0) (pa_cons pe_int pa_nil))) (fun _ _ => rfl))), ?_⟩
    refine ⟨_, rfl, (by show 2 ≤ sizeLine; decide), fun p6 n6 => ⟨(by show 1 ≤ sizeLine; decide), fun p7 n7 => ⟨(by show 2 ≤ sizeLine; decide), fun p8 n8 => ?_⟩⟩⟩
    intro p9 n9
    refine ⟨upd_same, [((Sum.inr (Str.ofString "?x") : Key), V.str (Str.ofString "a"))], rfl, by decide, ?_⟩
    refine ⟨_, _, rfl, rfl, ⟨by decide, by decide, by decide⟩, (by show 10 ≤ sizeLine; decide), fun pL nL => ?_⟩
    have S6 := same_new (o := .tup [V.str (Str.ofString "a"), V.str (Str.ofString "b")]) n6
    have S7 := same_new (o := .lst [V.str (Str.ofString "y")]) n7
    have S8 := same_new (o := .lst [V.str (Str.ofString "x"), V.ref p7]) n8
    have S9 := same_new2 (o := .dK []) (o' := .dK (mergeK [] [((Sum.inr (Str.ofString "?x") : Key), V.str (Str.ofString "a"))])) n9
    have SL := same_new (o := .lst [V.str (Str.ofString "a"), V.str (Str.ofString ""), V.non, V.int 0, V.int (-3), V.bl true, V.ref p6, V.ref p8, V.ref p9, V.int (10 ^ Int.toNat 20)]) nL
    have a6 := S6 _ _ hs
    have a7 := S7 _ _ a6
    have a8 := S8 _ _ a7
    have a9 := S9 _ _ a8
    have aL := SL _ _ a9
    have z6 := (ne_of_none hs n6).symm
    have z7 := (ne_of_none a6 n7).symm
    have z8 := (ne_of_none a7 n8).symm
    have z9 := (ne_of_none a8 n9).symm
    have zL := (ne_of_none a9 nL).symm
    have t6 := SL _ _ (S9 _ _ (S8 _ _ (S7 _ _ (upd_same (H := H) (a := p6)))))
    have t7 := SL _ _ (S9 _ _ (S8 _ _ (upd_same (a := p7))))
    have t8 := SL _ _ (S9 _ _ (upd_same (a := p8)))
    have t9 := SL _ _ (upd_same (a := p9))
    refine ⟨_, rfl, a, c, n, 10, rfl, ⟨d, aL⟩, hn, hc, by decide, by decide, fun r H' r0 r1 src keep => ?_⟩
    have all : ∀ b o, H b = some o → b ≠ a → H' b = some o := fun b o e nb => keep b o (SL _ _ (S9 _ _ (S8 _ _ (S7 _ _ (S6 _ _ e))))) nb
    have tL := keep pL _ upd_same zL
    have u6 := keep p6 _ t6 z6
    have u7 := keep p7 _ t7 z7
    have u8 := keep p8 _ t8 z8
    have u9 := keep p9 _ t9 z9
    obtain ⟨j, rfl⟩ : ∃ j : Nat, r = j := ⟨r.toNat, by omega⟩
    have hj : j = 0 ∨ j = 1 ∨ j = 2 ∨ j = 3 ∨ j = 4 ∨ j = 5 ∨ j = 6 ∨ j = 7 ∨ j = 8 ∨ j = 9 := by omega
    rcases hj with rfl | rfl | rfl | rfl | rfl | rfl | rfl | rfl | rfl | rfl
    · exact ⟨pL, _, _, _, rfl, rfl, SqL.of tL, atI_nat (j := 0) rfl, k _ _ H' (fun H2 k2 => shwD (.str (Str.ofString "a")) (.str _) (by decide +kernel)) src all⟩
    · exact ⟨pL, _, _, _, rfl, rfl, SqL.of tL, atI_nat (j := 1) rfl, k _ _ H' (fun H2 k2 => shwD (.str (Str.ofString "")) (.str _) (by decide +kernel)) src all⟩
    · exact ⟨pL, _, _, _, rfl, rfl, SqL.of tL, atI_nat (j := 2) rfl, k _ _ H' (fun H2 k2 => shwD .none .non (by decide +kernel)) src all⟩
    · exact ⟨pL, _, _, _, rfl, rfl, SqL.of tL, atI_nat (j := 3) rfl, k _ _ H' (fun H2 k2 => shwD (.int 0) (.int _) (by decide +kernel)) src all⟩
    · exact ⟨pL, _, _, _, rfl, rfl, SqL.of tL, atI_nat (j := 4) rfl, k _ _ H' (fun H2 k2 => shwD (.int (-3)) (.int _) (by decide +kernel)) src all⟩
    · exact ⟨pL, _, _, _, rfl, rfl, SqL.of tL, atI_nat (j := 5) rfl, k _ _ H' (fun H2 k2 => shwD (.bool true) (.bl _) (by decide +kernel)) src all⟩
    · exact ⟨pL, _, _, _, rfl, rfl, SqL.of tL, atI_nat (j := 6) rfl, k _ _ H' (fun H2 k2 => shwD (.tuple [.str (Str.ofString "a"), .str (Str.ofString "b")]) (.tup (SqT.of (k2 _ _ z6 u6)) (.cons (.str _) (.cons (.str _) .nil))) (by decide +kernel)) src all⟩
    · exact ⟨pL, _, _, _, rfl, rfl, SqL.of tL, atI_nat (j := 7) rfl, k _ _ H' (fun H2 k2 => shwD (.list [.str (Str.ofString "x"), .list [.str (Str.ofString "y")]]) (.lst (SqL.of (k2 _ _ z8 u8)) (.cons (.str _) (.cons (.lst (SqL.of (k2 _ _ z7 u7)) (.cons (.str _) .nil)) .nil))) (by decide +kernel)) src all⟩
    · exact ⟨pL, _, _, _, rfl, rfl, SqL.of tL, atI_nat (j := 8) rfl, k _ _ H' (fun H2 k2 => shwO (k2 _ _ z9 u9) (by decide +kernel)) src all⟩
    · exact ⟨pL, _, _, _, rfl, rfl, SqL.of tL, atI_nat (j := 9) rfl, k _ _ H' (fun H2 k2 => shwD (.int (10 ^ 20)) (.int _) (by decide +kernel)) src all⟩
end
end L2.K02
set_option Elab.async false
set_option linter.all false
set_option maxRecDepth 100000
set_option maxHeartbeats 4000000
/-! The law on errors: the classes' __init__, what is known of each class. -/
namespace L2.K02
open PySem PySem.Spec PyProof.Rows L2.XVal

/-! ### __init__ -/
def fl1 (f : Str) : List V → List (Str × V) := fun xs => xs.map fun x => (f, x)
def fl2 (f g : Str) : List V → List (Str × V)
  | [x, y] => [(g, y), (f, x)]
  | _ => []
section
variable {P : Program} {w : World} {K : PySem.W.Frag} {mg : Str → Option Value} {base : Heap} {C fI : Addr} {fd : FuncData} {qual f g : Str} {st : Stmt}
theorem ok_ini1 {q1 q2 q3 q4 : Pos} (F : Fun K "__init__" qual st fI fd) (S : FnScope ["self", f] ["self", f] (defScope st))
    (hb : defBody st = [.Assign [.Attribute (.Name "self" q1) f q2] (.Name f q3) q4])
    (v0 : (defScope st).names.lookup ("self" : Str) = some .local) (v1 : (defScope st).names.lookup f = some .local)
    (d1 : (f == ("__debug__" : Str)) = false) (d2 : (f == ("__classdict__" : Str)) = false)
    (T : OexC K C) (no : PySem.W.findIn K (.ref C) f = some none) : FnOk P w K mg base CX0 1 fI fd ["self", f] (spIni K C 1 (fl1 f)) := by
  refine F.ok S (fun vs H Q E h => ?_) (fun cdv A outer s H vs Q E hr h => ?_)
  · obtain ⟨a, xs, rfl, l, _⟩ := h
    simp [l]
  · obtain ⟨a, xs, rfl, l, ha, k⟩ := h
    match xs, l with
    | [x], _ =>
      refine ⟨tOst K f (tVar 0) (tVar 1), ?_, ?_⟩
      · rw [hb]
        exact pss_one (ps_ost (pv 0 rfl (Or.inl v0)) (pv 1 rfl (Or.inl v1) d1 d2))
      · refine ⟨_, rfl, _, rfl, a, C, rfl, T, no, .inl ⟨ha, fun dx hd ne => ?_⟩⟩
        refine k dx _ hd ne (fun b o e nb => ?_) upd_same ?_
        · rw [upd_ne nb, upd_ne (ne_of_none e hd)]
          exact e
        · rw [upd_ne ne]
          exact upd_same
theorem ok_ini2 {q1 q2 q3 q4 r1 r2 r3 r4 : Pos} (F : Fun K "__init__" qual st fI fd) (S : FnScope ["self", f, g] ["self", f, g] (defScope st))
    (hb : defBody st = [.Assign [.Attribute (.Name "self" q1) f q2] (.Name f q3) q4, .Assign [.Attribute (.Name "self" r1) g r2] (.Name g r3) r4])
    (v0 : (defScope st).names.lookup ("self" : Str) = some .local) (v1 : (defScope st).names.lookup f = some .local) (v2 : (defScope st).names.lookup g = some .local)
    (d1 : (f == ("__debug__" : Str)) = false) (d2 : (f == ("__classdict__" : Str)) = false)
    (d3 : (g == ("__debug__" : Str)) = false) (d4 : (g == ("__classdict__" : Str)) = false)
    (T : OexC K C) (no : PySem.W.findIn K (.ref C) f = some none) (no2 : PySem.W.findIn K (.ref C) g = some none) :
    FnOk P w K mg base CX0 1 fI fd ["self", f, g] (spIni K C 2 (fl2 f g)) := by
  refine F.ok S (fun vs H Q E h => ?_) (fun cdv A outer s H vs Q E hr h => ?_)
  · obtain ⟨a, xs, rfl, l, _⟩ := h
    simp [l]
  · obtain ⟨a, xs, rfl, l, ha, k⟩ := h
    match xs, l with
    | [x, y], _ =>
      refine ⟨tSeq (tOst K f (tVar 0) (tVar 1)) (tOst K g (tVar 0) (tVar 2)), ?_, ?_⟩
      · rw [hb]
        exact pss_cons (ps_ost (pv 0 rfl (Or.inl v0)) (pv 1 rfl (Or.inl v1) d1 d2)) (pss_one (ps_ost (pv 0 rfl (Or.inl v0)) (pv 2 rfl (Or.inl v2) d3 d4)))
      · refine ⟨_, rfl, _, rfl, a, C, rfl, T, no, .inl ⟨ha, fun dx hd ne => ?_⟩⟩
        have at_ : (upd (upd H dx (exd dx [(f, x)])) a (exo a C (some dx))) dx = some (exd dx [(f, x)]) := by
          rw [upd_ne ne]
          exact upd_same
        refine ⟨_, rfl, _, rfl, a, C, rfl, T, no2, .inr ⟨dx, _, upd_same, at_, (by show 1 ≤ 900; decide), ?_⟩⟩
        refine k dx _ hd ne (fun b o e nb => ?_) ?_ upd_same
        · rw [upd_ne (ne_of_none e hd), upd_ne nb, upd_ne (ne_of_none e hd)]
          exact e
        · rw [upd_ne ne.symm]
          exact upd_same
end

/-! ### how an __init__'s arguments bind -/
theorem kbn_of {K : PySem.W.Frag} {x qual : Str} {st : Stmt} {f : Addr} {fd : FuncData} {ps ks : List Str} {n : Nat}
    {g : List Value → List Value → List Value} {gV : List V → List V → List V} (F : Fun K x qual st f fd)
    (rel : ∀ {vs : List V} {us : List Value} {zs : List V} {ws : List Value}, Vals vs us → Vals zs ws → Vals (gV vs zs) (g us ws))
    (h : ∀ (kV doc pm : Value) (an : Option Addr) (cdv ct : Value) (us ws : List Value), us.length = n → ws.length = ks.length →
      bindArgs (PySem.W.fnOf x qual (defArgs st) (defBody st) (defScope st) .none kV doc pm an cdv ct) ⟨us, ks.zip ws⟩ = pure (ps.zip (g us ws))) :
    KBn K fd ps n ks g gV := by
  obtain ⟨oc, od, kV, doc, pm, an, cdv, ct, osl, rfl, lk, hcd⟩ := F.ex
  exact ⟨fun s us ws _ l1 l2 => .of_eq (h kV doc pm an cdv ct us ws l1 l2), rel⟩
def gL {α : Type} : List α → List α → List α := fun us _ => us
def gA {α : Type} : List α → List α → List α := fun us ws => us ++ ws
/-- self, and two keywords the other way round -/
def gT {α : Type} : List α → List α → List α := fun us ws => us ++ ws.reverse
theorem relL {vs : List V} {us : List Value} {zs : List V} {ws : List Value} (r : Vals vs us) (_ : Vals zs ws) : Vals (gL vs zs) (gL us ws) := r
theorem relA {vs : List V} {us : List Value} {zs : List V} {ws : List Value} (r : Vals vs us) (q : Vals zs ws) : Vals (gA vs zs) (gA us ws) := r.append q
theorem rev_vals : ∀ {zs : List V} {ws : List Value}, Vals zs ws → Vals zs.reverse ws.reverse
  | _, _, .nil => .nil
  | _, _, .cons r t => by
    rw [List.reverse_cons, List.reverse_cons]
    exact (rev_vals t).append (.cons r .nil)
theorem relT {vs : List V} {us : List Value} {zs : List V} {ws : List Value} (r : Vals vs us) (q : Vals zs ws) : Vals (gT vs zs) (gT us ws) := r.append (rev_vals q)

/-! ### what the top has left of the classes -/
abbrev veB : List Value := [.type "ValueError", .type "Exception", .type "BaseException", .type "object"]
/-- a class without an __init__ -/
structure Cl0 (K : PySem.W.Frag) (mg : Str → Option Value) (name : Str) (C : Addr) : Prop where
  gC : mg name = some (.ref C)
  kC : PySem.W.keepIn K (.ref C) = true
  ex : PySem.W.excIn K C veB "ValueError.__new__" = true
/-- a class with one -/
structure ClN (K : PySem.W.Frag) (mg : Str → Option Value) (name : Str) (C fI : Addr) : Prop where
  gC : mg name = some (.ref C)
  T : OexC K C
  iC : PySem.W.findIn K (.ref C) "__init__" = some (some (.ref fI))
  tI : PySem.W.typeIn K (.ref fI) = some (.type "function")
  xf : XfC K C
structure Cl1 (K : PySem.W.Frag) (mg : Str → Option Value) (name : Str) (C fI : Addr) (fd : FuncData) (f : Str) : Prop extends ClN K mg name C fI where
  no : PySem.W.findIn K (.ref C) f = some none
  ok : ∀ (P : Program) (w : World) (base : Heap), FnOk P w K mg base CX0 1 fI fd ["self", f] (spIni K C 1 (fl1 f))
  bP : KBn K fd ["self", f] 2 [] gL gL
  bK : KBn K fd ["self", f] 1 [f] gA gA

section
variable {X : Cx} {C fI : Addr} {fd : FuncData} {name f : Str} {e : Expr} {te : TE} {p pos p1 : Pos}
/-- C() -/
def tN0 (C : Addr) : TE := fun _ H Q => ∀ a H3, Same H H3 → XIs H3 a C → Q (.ref a) H3
theorem pe_n0 (c : Cl0 X.K X.mg name C) (gl : Gl X name) (hdb : (name == ("__debug__" : Str)) = false := by decide) :
    PE X (.Call (.Name name p) [] [] pos) (tN0 C) := pe_new0 PySem.F.excBase_ValueError c.ex c.gC c.kC gl hdb
/-- C(e), C(f = e) -/
def tN1 (C : Addr) (f : Str) (te : TE) : TE := fun σ H Q => te σ H fun x H1 => 1 = 1 ∧ 0 = 0 ∧ ∀ a H3, Same H1 H3 → XAt H3 a C [(f, x)] → Q (.ref a) H3
def tK1 (C : Addr) (f : Str) (te : TE) : TE := fun σ H Q => te σ H fun x H1 => 0 = 0 ∧ 1 = 1 ∧ ∀ a H3, Same H1 H3 → XAt H3 a C [(f, x)] → Q (.ref a) H3
theorem pe_n1 (c : Cl1 X.K X.mg name C fI fd f) (hr : Room 2 X.A) (gl : Gl X name) (he : PE X e te)
    (hdb : (name == ("__debug__" : Str)) = false := by decide)
    (hs : starEach (e :: []) X.env = (false, eval e X.env) :: starEach [] X.env := by rfl)
    (hpl : (backTo pos (starEach [] X.env)).any (·.1) = false := by rfl) :
    PE X (.Call (.Name name p) [e] [] pos) (tN1 C f te) :=
  pe_newP (n := 1) (j := 1) c.T c.iC c.tI (c.ok X.prog X.w X.base) hr c.bP pass0 (by decide) (fun a vs zs l _ => ⟨vs, rfl, l⟩) gl c.gC (pa_cons he pa_nil hs) hdb hs hpl
theorem pe_k1 (c : Cl1 X.K X.mg name C fI fd f) (hr : Room 2 X.A) (gl : Gl X name) (he : PE X e te)
    (hall : (backToKw pos (keywordEach [⟨some f, e, p1⟩] X.env)).all (·.1.isSome) = true := by rfl)
    (hks : (backToKw pos (keywordEach [⟨some f, e, p1⟩] X.env)).filterMap (·.1) = [f] := by rfl)
    (hdb : (name == ("__debug__" : Str)) = false := by decide)
    (hpl : ((backTo pos (starEach [] X.env)).any (·.1) || (backToKw pos (keywordEach [⟨some f, e, p1⟩] X.env)).any (·.1.isNone)) = false := by rfl) :
    PE X (.Call (.Name name p) [] [⟨some f, e, p1⟩] pos) (tK1 C f te) :=
  pe_newK (j := 1) c.T c.iC c.tI (c.ok X.prog X.w X.base) hr c.bK pass0 (fun a vs zs l0 l => ⟨zs, by rw [List.length_eq_zero_iff.mp l0]; rfl, l⟩) gl c.gC (pk_cons he pk_nil) hall hks hdb hpl
end
/-- the class with two fields -/
structure Cl2 (K : PySem.W.Frag) (mg : Str → Option Value) (name : Str) (C fI : Addr) (fd : FuncData) (f g : Str) : Prop extends ClN K mg name C fI where
  no : PySem.W.findIn K (.ref C) f = some none
  no2 : PySem.W.findIn K (.ref C) g = some none
  ok : ∀ (P : Program) (w : World) (base : Heap), FnOk P w K mg base CX0 1 fI fd ["self", f, g] (spIni K C 2 (fl2 f g))
  bP : KBn K fd ["self", f, g] 3 [] gL gL
  bK : KBn K fd ["self", f, g] 1 [f, g] gA gA
  bT : KBn K fd ["self", f, g] 1 [g, f] gT gT
section
variable {X : Cx} {C fI : Addr} {fd : FuncData} {name f g : Str} {e e2 : Expr} {te te2 : TE} {p pos p1 p2 : Pos}
def tN2 (C : Addr) (f g : Str) (te te2 : TE) : TE := fun σ H Q => te σ H fun x H1 => te2 σ H1 fun y H2 => 2 = 2 ∧ 0 = 0 ∧ ∀ a H3, Same H2 H3 → XAt H3 a C [(g, y), (f, x)] → Q (.ref a) H3
def tK2 (C : Addr) (f g : Str) (te te2 : TE) : TE := fun σ H Q => te σ H fun x H1 => te2 σ H1 fun y H2 => 0 = 0 ∧ 2 = 2 ∧ ∀ a H3, Same H2 H3 → XAt H3 a C [(g, y), (f, x)] → Q (.ref a) H3
def tT2 (C : Addr) (f g : Str) (te te2 : TE) : TE := fun σ H Q => te σ H fun x H1 => te2 σ H1 fun y H2 => 0 = 0 ∧ 2 = 2 ∧ ∀ a H3, Same H2 H3 → XAt H3 a C [(g, x), (f, y)] → Q (.ref a) H3
theorem pe_n2 (c : Cl2 X.K X.mg name C fI fd f g) (hr : Room 2 X.A) (gl : Gl X name) (he : PE X e te) (he2 : PE X e2 te2)
    (hdb : (name == ("__debug__" : Str)) = false := by decide)
    (hs : starEach (e :: [e2]) X.env = (false, eval e X.env) :: starEach [e2] X.env := by rfl)
    (hs2 : starEach (e2 :: []) X.env = (false, eval e2 X.env) :: starEach [] X.env := by rfl)
    (hpl : (backTo pos (starEach [e2] X.env)).any (·.1) = false := by rfl) :
    PE X (.Call (.Name name p) [e, e2] [] pos) (tN2 C f g te te2) :=
  pe_newP (n := 2) (j := 2) c.T c.iC c.tI (c.ok X.prog X.w X.base) hr c.bP pass0 (by decide) (fun a vs zs l _ => ⟨vs, rfl, l⟩) gl c.gC (pa_cons he (pa_cons he2 pa_nil hs2) hs) hdb hs hpl
theorem pe_k2 (c : Cl2 X.K X.mg name C fI fd f g) (hr : Room 2 X.A) (gl : Gl X name) (he : PE X e te) (he2 : PE X e2 te2)
    (hall : (backToKw pos (keywordEach [⟨some f, e, p1⟩, ⟨some g, e2, p2⟩] X.env)).all (·.1.isSome) = true := by rfl)
    (hks : (backToKw pos (keywordEach [⟨some f, e, p1⟩, ⟨some g, e2, p2⟩] X.env)).filterMap (·.1) = [f, g] := by rfl)
    (hdb : (name == ("__debug__" : Str)) = false := by decide)
    (hpl : ((backTo pos (starEach [] X.env)).any (·.1) || (backToKw pos (keywordEach [⟨some f, e, p1⟩, ⟨some g, e2, p2⟩] X.env)).any (·.1.isNone)) = false := by rfl) :
    PE X (.Call (.Name name p) [] [⟨some f, e, p1⟩, ⟨some g, e2, p2⟩] pos) (tK2 C f g te te2) :=
  pe_newK (j := 2) c.T c.iC c.tI (c.ok X.prog X.w X.base) hr c.bK pass0 (fun a vs zs l0 l => ⟨zs, by rw [List.length_eq_zero_iff.mp l0]; rfl, l⟩) gl c.gC (pk_cons he (pk_cons he2 pk_nil)) hall hks hdb hpl
theorem pe_t2 (c : Cl2 X.K X.mg name C fI fd f g) (hr : Room 2 X.A) (gl : Gl X name) (he : PE X e te) (he2 : PE X e2 te2)
    (hall : (backToKw pos (keywordEach [⟨some g, e, p1⟩, ⟨some f, e2, p2⟩] X.env)).all (·.1.isSome) = true := by rfl)
    (hks : (backToKw pos (keywordEach [⟨some g, e, p1⟩, ⟨some f, e2, p2⟩] X.env)).filterMap (·.1) = [g, f] := by rfl)
    (hdb : (name == ("__debug__" : Str)) = false := by decide)
    (hpl : ((backTo pos (starEach [] X.env)).any (·.1) || (backToKw pos (keywordEach [⟨some g, e, p1⟩, ⟨some f, e2, p2⟩] X.env)).any (·.1.isNone)) = false := by rfl) :
    PE X (.Call (.Name name p) [] [⟨some g, e, p1⟩, ⟨some f, e2, p2⟩] pos) (tT2 C f g te te2) :=
  pe_newK (j := 2) c.T c.iC c.tI (c.ok X.prog X.w X.base) hr c.bT pass0 (fun a vs zs l0 l => ⟨zs.reverse, by rw [List.length_eq_zero_iff.mp l0]; rfl, by rw [List.length_reverse]; exact l⟩) gl c.gC (pk_cons he (pk_cons he2 pk_nil)) hall hks hdb hpl
end
end L2.K02
set_option Elab.async false
set_option linter.all false
set_option maxRecDepth 100000
set_option maxHeartbeats 8000000
/-! The law on errors: what it makes of the classes. -/
namespace L2.K02
open PySem PySem.Spec PyProof.Rows L2.XVal

/-- where the classes stand -/
structure Ads where
  (cBadText cBadKey cBadRule cClash cBadNodes cBadNames cOrBelow cNothingToUndo cNothingToRedo cBadFact cBadPattern cBadLine cLoose cNothingNew cBadNode cBadPart cNoPart cBadStrike cNotAnAnswer cBadQuestion cNoName cNotThere cThereAlready cBroken : Addr)
  (fBadFact fBadPattern fBadLine fLoose fNothingNew fBadNode fBadPart fNoPart fBadStrike fNotAnAnswer fBadQuestion fNoName fNotThere fThereAlready fBroken : Addr)
  (dBadFact dBadPattern dBadLine dLoose dNothingNew dBadNode dBadPart dNoPart dBadStrike dNotAnAnswer dBadQuestion dNoName dNotThere dThereAlready dBroken : FuncData)
def Ads.all (A : Ads) : List Addr := [A.cBadText, A.cBadKey, A.cBadRule, A.cClash, A.cBadNodes, A.cBadNames, A.cOrBelow, A.cNothingToUndo, A.cNothingToRedo, A.cBadFact, A.cBadPattern, A.cBadLine, A.cLoose, A.cNothingNew, A.cBadNode, A.cBadPart, A.cNoPart, A.cBadStrike, A.cNotAnAnswer, A.cBadQuestion, A.cNoName, A.cNotThere, A.cThereAlready, A.cBroken]
/-- what isinstance makes of an exception of the class at C -/
structure Row (K : PySem.W.Frag) (R : Addr) (Cs : List Addr) (C : Addr) : Prop where
  ec : ExcC K C
  kit : ∀ D ∈ Cs, PySem.W.kitOne K (.ref C) (.ref D) = some (decide (C = D))
  kR : PySem.W.kitOne K (.ref C) (.ref R) = some true
  kV : PySem.W.kitOne K (.ref C) (.type "ValueError") = some true
structure Tx (K : PySem.W.Frag) (mg : Str → Option Value) (A : Ads) (R : Addr) : Prop where
  tBadText : Cl0 K mg "BadText" A.cBadText
  tBadKey : Cl0 K mg "BadKey" A.cBadKey
  tBadRule : Cl0 K mg "BadRule" A.cBadRule
  tClash : Cl0 K mg "Clash" A.cClash
  tBadNodes : Cl0 K mg "BadNodes" A.cBadNodes
  tBadNames : Cl0 K mg "BadNames" A.cBadNames
  tOrBelow : Cl0 K mg "OrBelow" A.cOrBelow
  tNothingToUndo : Cl0 K mg "NothingToUndo" A.cNothingToUndo
  tNothingToRedo : Cl0 K mg "NothingToRedo" A.cNothingToRedo
  tBadFact : Cl1 K mg "BadFact" A.cBadFact A.fBadFact A.dBadFact "value"
  tBadPattern : Cl1 K mg "BadPattern" A.cBadPattern A.fBadPattern A.dBadPattern "value"
  tBadLine : Cl1 K mg "BadLine" A.cBadLine A.fBadLine A.dBadLine "line"
  tLoose : Cl1 K mg "Loose" A.cLoose A.fLoose A.dLoose "variable"
  tNothingNew : Cl1 K mg "NothingNew" A.cNothingNew A.fNothingNew A.dNothingNew "index"
  tBadNode : Cl1 K mg "BadNode" A.cBadNode A.fBadNode A.dBadNode "index"
  tBadPart : Cl1 K mg "BadPart" A.cBadPart A.fBadPart A.dBadPart "part"
  tNoPart : Cl1 K mg "NoPart" A.cNoPart A.fNoPart A.dNoPart "known"
  tBadStrike : Cl1 K mg "BadStrike" A.cBadStrike A.fBadStrike A.dBadStrike "value"
  tNotAnAnswer : Cl1 K mg "NotAnAnswer" A.cNotAnAnswer A.fNotAnAnswer A.dNotAnAnswer "known"
  tBadQuestion : Cl1 K mg "BadQuestion" A.cBadQuestion A.fBadQuestion A.dBadQuestion "value"
  tNoName : Cl1 K mg "NoName" A.cNoName A.fNoName A.dNoName "value"
  tNotThere : Cl1 K mg "NotThere" A.cNotThere A.fNotThere A.dNotThere "fact"
  tThereAlready : Cl1 K mg "ThereAlready" A.cThereAlready A.fThereAlready A.dThereAlready "fact"
  tBroken : Cl2 K mg "Broken" A.cBroken A.fBroken A.dBroken "index" "shown"
  row : ∀ C ∈ A.all, Row K R A.all C
  nd : A.all.Nodup
  gR : mg "RowsError" = some (.ref R)
  gV : mg "ValueError" = none
  gi : mg "isinstance" = none
  gl : mg "len" = none
  gp : mg "repr" = none

theorem mBadText (A : Ads) : A.cBadText ∈ A.all := List.mem_of_getElem? (i := 0) rfl
theorem mBadKey (A : Ads) : A.cBadKey ∈ A.all := List.mem_of_getElem? (i := 1) rfl
theorem mBadRule (A : Ads) : A.cBadRule ∈ A.all := List.mem_of_getElem? (i := 2) rfl
theorem mClash (A : Ads) : A.cClash ∈ A.all := List.mem_of_getElem? (i := 3) rfl
theorem mBadNodes (A : Ads) : A.cBadNodes ∈ A.all := List.mem_of_getElem? (i := 4) rfl
theorem mBadNames (A : Ads) : A.cBadNames ∈ A.all := List.mem_of_getElem? (i := 5) rfl
theorem mOrBelow (A : Ads) : A.cOrBelow ∈ A.all := List.mem_of_getElem? (i := 6) rfl
theorem mNothingToUndo (A : Ads) : A.cNothingToUndo ∈ A.all := List.mem_of_getElem? (i := 7) rfl
theorem mNothingToRedo (A : Ads) : A.cNothingToRedo ∈ A.all := List.mem_of_getElem? (i := 8) rfl
theorem mBadFact (A : Ads) : A.cBadFact ∈ A.all := List.mem_of_getElem? (i := 9) rfl
theorem mBadPattern (A : Ads) : A.cBadPattern ∈ A.all := List.mem_of_getElem? (i := 10) rfl
theorem mBadLine (A : Ads) : A.cBadLine ∈ A.all := List.mem_of_getElem? (i := 11) rfl
theorem mLoose (A : Ads) : A.cLoose ∈ A.all := List.mem_of_getElem? (i := 12) rfl
theorem mNothingNew (A : Ads) : A.cNothingNew ∈ A.all := List.mem_of_getElem? (i := 13) rfl
theorem mBadNode (A : Ads) : A.cBadNode ∈ A.all := List.mem_of_getElem? (i := 14) rfl
theorem mBadPart (A : Ads) : A.cBadPart ∈ A.all := List.mem_of_getElem? (i := 15) rfl
theorem mNoPart (A : Ads) : A.cNoPart ∈ A.all := List.mem_of_getElem? (i := 16) rfl
theorem mBadStrike (A : Ads) : A.cBadStrike ∈ A.all := List.mem_of_getElem? (i := 17) rfl
theorem mNotAnAnswer (A : Ads) : A.cNotAnAnswer ∈ A.all := List.mem_of_getElem? (i := 18) rfl
theorem mBadQuestion (A : Ads) : A.cBadQuestion ∈ A.all := List.mem_of_getElem? (i := 19) rfl
theorem mNoName (A : Ads) : A.cNoName ∈ A.all := List.mem_of_getElem? (i := 20) rfl
theorem mNotThere (A : Ads) : A.cNotThere ∈ A.all := List.mem_of_getElem? (i := 21) rfl
theorem mThereAlready (A : Ads) : A.cThereAlready ∈ A.all := List.mem_of_getElem? (i := 22) rfl
theorem mBroken (A : Ads) : A.cBroken ∈ A.all := List.mem_of_getElem? (i := 23) rfl

/-! ### made -/
def spMade (A : Ads) : Sp := fun vs H Q _ => ∃ x y : V, vs = [x, y] ∧ ∀ (H' : Hp) (p : Addr) (as : List Addr), Same H H' → H' p = some (.lst (as.map V.ref)) → as.length = 24 →
  (∀ a ∈ as, ∃ C, C ∈ A.all ∧ XIs H' a C) → Q (.ref p) H'
section
variable {P : Program} {w : World} {K : PySem.W.Frag} {mg : Str → Option Value} {base : Heap} {A : Ads} {R : Addr}
theorem scM : FnScope ["_law_one", "_law_two", "_law_plain", "_law_more"] ["_law_one", "_law_two"] (defScope sMade) :=
  ⟨rfl, rfl, rfl, by decide +kernel, rfl, by decide +kernel, by decide +kernel⟩
theorem ok_made {f : Addr} {fd : FuncData} (F : Fun K "_law_made" "_law_made" sMade f fd) (T : Tx K mg A R) :
    FnOk P w K mg base CX0 3 f fd ["_law_one", "_law_two"] (spMade A) := by
  refine F.ok scM (fun vs H Q E h => ?_) (fun cdv A' outer s H vs Q E hr2 h => ?_)
  · obtain ⟨x, y, rfl, _⟩ := h
    rfl
  · obtain ⟨x, y, rfl, k⟩ := h
    refine ⟨_, pss_cons (ps_set (i := 2) scM.nd rfl (Or.inl rfl) (pe_lst (pa_cons (pe_n0 T.tBadText (by rfl)) (pa_cons (pe_n0 T.tBadKey (by rfl)) (pa_cons (pe_n0 T.tBadRule (by rfl)) (pa_cons (pe_n0 T.tClash (by rfl)) (pa_cons (pe_n0 T.tBadNodes (by rfl)) (pa_cons (pe_n0 T.tBadNames (by rfl)) (pa_cons (pe_n0 T.tOrBelow (by rfl)) pa_nil)))))))))
      (pss_cons (ps_set (i := 2) scM.nd rfl (Or.inl rfl) (pe_op op_cat (pv 2) (pe_lst (pa_cons (pe_n0 T.tNothingToUndo (by rfl)) (pa_cons (pe_n0 T.tNothingToRedo (by rfl)) pa_nil)))))
      (pss_cons (ps_set (i := 3) scM.nd rfl (Or.inl rfl) (pe_lst (pa_cons (pe_n1 T.tBadFact hr2 (by rfl) (pv 0)) (pa_cons (pe_n1 T.tBadPattern hr2 (by rfl) (pv 0)) (pa_cons (pe_n1 T.tBadLine hr2 (by rfl) (pv 0)) (pa_cons (pe_n1 T.tLoose hr2 (by rfl) (pv 0)) (pa_cons (pe_n1 T.tNothingNew hr2 (by rfl) (pv 0)) (pa_cons (pe_n1 T.tBadNode hr2 (by rfl) (pv 0)) (pa_cons (pe_n1 T.tBadPart hr2 (by rfl) (pv 0)) pa_nil)))))))))
      (pss_cons (ps_set (i := 3) scM.nd rfl (Or.inl rfl) (pe_op op_cat (pv 3) (pe_lst (pa_cons (pe_n1 T.tNoPart hr2 (by rfl) (pv 0)) (pa_cons (pe_n1 T.tBadStrike hr2 (by rfl) (pv 0)) (pa_cons (pe_n1 T.tNotAnAnswer hr2 (by rfl) (pv 0)) (pa_cons (pe_n1 T.tBadQuestion hr2 (by rfl) (pv 0)) (pa_cons (pe_n1 T.tNoName hr2 (by rfl) (pv 0)) (pa_cons (pe_n1 T.tNotThere hr2 (by rfl) (pv 0)) pa_nil)))))))))
      (pss_one (ps_ret (pe_op op_cat (pe_op op_cat (pv 2) (pv 3)) (pe_lst (pa_cons (pe_n1 T.tThereAlready hr2 (by rfl) (pv 0)) (pa_cons (pe_n2 T.tBroken hr2 (by rfl) (pv 0) (pv 1)) pa_nil))))))))), ?_⟩
    intro a1 G1 s1 x1
    intro a2 G2 s2 x2
    intro a3 G3 s3 x3
    intro a4 G4 s4 x4
    intro a5 G5 s5 x5
    intro a6 G6 s6 x6
    intro a7 G7 s7 x7
    refine ⟨(by show 7 ≤ sizeLine; decide), fun p1 n1 => ?_⟩
    have u1 := same_new (o := .lst [V.ref a1, V.ref a2, V.ref a3, V.ref a4, V.ref a5, V.ref a6, V.ref a7]) n1
    refine ⟨_, rfl, ?_⟩
    intro a8 G8 s8 x8
    intro a9 G9 s9 x9
    refine ⟨(by show 2 ≤ sizeLine; decide), fun p2 n2 => ?_⟩
    have u2 := same_new (o := .lst [V.ref a8, V.ref a9]) n2
    have b1 := (u2 _ _ (s9 _ _ (s8 _ _ (upd_same (a := p1)))))
    refine ⟨p1, p2, _, _, rfl, rfl, b1, upd_same, (by show 7 + 2 ≤ sizeLine; decide), fun p3 n3 => ?_⟩
    have u3 := same_new (o := .lst ([V.ref a1, V.ref a2, V.ref a3, V.ref a4, V.ref a5, V.ref a6, V.ref a7] ++ [V.ref a8, V.ref a9])) n3
    refine ⟨_, rfl, rfl, rfl, fun a10 G10 s10 x10 => ?_⟩
    refine ⟨_, rfl, rfl, rfl, fun a11 G11 s11 x11 => ?_⟩
    refine ⟨_, rfl, rfl, rfl, fun a12 G12 s12 x12 => ?_⟩
    refine ⟨_, rfl, rfl, rfl, fun a13 G13 s13 x13 => ?_⟩
    refine ⟨_, rfl, rfl, rfl, fun a14 G14 s14 x14 => ?_⟩
    refine ⟨_, rfl, rfl, rfl, fun a15 G15 s15 x15 => ?_⟩
    refine ⟨_, rfl, rfl, rfl, fun a16 G16 s16 x16 => ?_⟩
    refine ⟨(by show 7 ≤ sizeLine; decide), fun p4 n4 => ?_⟩
    have u4 := same_new (o := .lst [V.ref a10, V.ref a11, V.ref a12, V.ref a13, V.ref a14, V.ref a15, V.ref a16]) n4
    refine ⟨_, rfl, ?_⟩
    refine ⟨_, rfl, rfl, rfl, fun a17 G17 s17 x17 => ?_⟩
    refine ⟨_, rfl, rfl, rfl, fun a18 G18 s18 x18 => ?_⟩
    refine ⟨_, rfl, rfl, rfl, fun a19 G19 s19 x19 => ?_⟩
    refine ⟨_, rfl, rfl, rfl, fun a20 G20 s20 x20 => ?_⟩
    refine ⟨_, rfl, rfl, rfl, fun a21 G21 s21 x21 => ?_⟩
    refine ⟨_, rfl, rfl, rfl, fun a22 G22 s22 x22 => ?_⟩
    refine ⟨(by show 6 ≤ sizeLine; decide), fun p5 n5 => ?_⟩
    have u5 := same_new (o := .lst [V.ref a17, V.ref a18, V.ref a19, V.ref a20, V.ref a21, V.ref a22]) n5
    have b4 := (u5 _ _ (s22 _ _ (s21 _ _ (s20 _ _ (s19 _ _ (s18 _ _ (s17 _ _ (upd_same (a := p4)))))))))
    refine ⟨p4, p5, _, _, rfl, rfl, b4, upd_same, (by show 7 + 6 ≤ sizeLine; decide), fun p6 n6 => ?_⟩
    have u6 := same_new (o := .lst ([V.ref a10, V.ref a11, V.ref a12, V.ref a13, V.ref a14, V.ref a15, V.ref a16] ++ [V.ref a17, V.ref a18, V.ref a19, V.ref a20, V.ref a21, V.ref a22])) n6
    have b3 := (u6 _ _ (u5 _ _ (s22 _ _ (s21 _ _ (s20 _ _ (s19 _ _ (s18 _ _ (s17 _ _ (u4 _ _ (s16 _ _ (s15 _ _ (s14 _ _ (s13 _ _ (s12 _ _ (s11 _ _ (s10 _ _ (upd_same (a := p3))))))))))))))))))
    refine ⟨_, rfl, _, rfl, p3, p6, _, _, rfl, rfl, b3, upd_same, (by show 9 + 13 ≤ sizeLine; decide), fun p7 n7 => ?_⟩
    have u7 := same_new (o := .lst (([V.ref a1, V.ref a2, V.ref a3, V.ref a4, V.ref a5, V.ref a6, V.ref a7] ++ [V.ref a8, V.ref a9]) ++ ([V.ref a10, V.ref a11, V.ref a12, V.ref a13, V.ref a14, V.ref a15, V.ref a16] ++ [V.ref a17, V.ref a18, V.ref a19, V.ref a20, V.ref a21, V.ref a22]))) n7
    refine ⟨_, rfl, rfl, rfl, fun a23 G23 s23 x23 => ?_⟩
    refine ⟨_, rfl, _, rfl, rfl, rfl, fun a24 G24 s24 x24 => ?_⟩
    refine ⟨(by show 2 ≤ sizeLine; decide), fun p8 n8 => ?_⟩
    have u8 := same_new (o := .lst [V.ref a23, V.ref a24]) n8
    have b7 := (u8 _ _ (s24 _ _ (s23 _ _ (upd_same (a := p7)))))
    refine ⟨p7, p8, _, _, rfl, rfl, b7, upd_same, (by show 22 + 2 ≤ sizeLine; decide), fun p9 n9 => ?_⟩
    have u9 := same_new (o := .lst ((([V.ref a1, V.ref a2, V.ref a3, V.ref a4, V.ref a5, V.ref a6, V.ref a7] ++ [V.ref a8, V.ref a9]) ++ ([V.ref a10, V.ref a11, V.ref a12, V.ref a13, V.ref a14, V.ref a15, V.ref a16] ++ [V.ref a17, V.ref a18, V.ref a19, V.ref a20, V.ref a21, V.ref a22])) ++ [V.ref a23, V.ref a24])) n9
    have e32 := u9
    have e31 := u8.trans e32
    have e30 := s24.trans e31
    have e29 := s23.trans e30
    have e28 := u7.trans e29
    have e27 := u6.trans e28
    have e26 := u5.trans e27
    have e25 := s22.trans e26
    have e24 := s21.trans e25
    have e23 := s20.trans e24
    have e22 := s19.trans e23
    have e21 := s18.trans e22
    have e20 := s17.trans e21
    have e19 := u4.trans e20
    have e18 := s16.trans e19
    have e17 := s15.trans e18
    have e16 := s14.trans e17
    have e15 := s13.trans e16
    have e14 := s12.trans e15
    have e13 := s11.trans e14
    have e12 := s10.trans e13
    have e11 := u3.trans e12
    have e10 := u2.trans e11
    have e9 := s9.trans e10
    have e8 := s8.trans e9
    have e7 := u1.trans e8
    have e6 := s7.trans e7
    have e5 := s6.trans e6
    have e4 := s5.trans e5
    have e3 := s4.trans e4
    have e2 := s3.trans e3
    have e1 := s2.trans e2
    have e0 := s1.trans e1
    refine k _ p9 [a1, a2, a3, a4, a5, a6, a7, a8, a9, a10, a11, a12, a13, a14, a15, a16, a17, a18, a19, a20, a21, a22, a23, a24] e0 upd_same rfl ?_
    intro a ha
    have hm : a = a1 ∨ a = a2 ∨ a = a3 ∨ a = a4 ∨ a = a5 ∨ a = a6 ∨ a = a7 ∨ a = a8 ∨ a = a9 ∨ a = a10 ∨ a = a11 ∨ a = a12 ∨ a = a13 ∨ a = a14 ∨ a = a15 ∨ a = a16 ∨ a = a17 ∨ a = a18 ∨ a = a19 ∨ a = a20 ∨ a = a21 ∨ a = a22 ∨ a = a23 ∨ a = a24 := by simpa using ha
    rcases hm with rfl | rfl | rfl | rfl | rfl | rfl | rfl | rfl | rfl | rfl | rfl | rfl | rfl | rfl | rfl | rfl | rfl | rfl | rfl | rfl | rfl | rfl | rfl | rfl
    · exact ⟨_, mBadText A, x1.same e1⟩
    · exact ⟨_, mBadKey A, x2.same e2⟩
    · exact ⟨_, mBadRule A, x3.same e3⟩
    · exact ⟨_, mClash A, x4.same e4⟩
    · exact ⟨_, mBadNodes A, x5.same e5⟩
    · exact ⟨_, mBadNames A, x6.same e6⟩
    · exact ⟨_, mOrBelow A, x7.same e7⟩
    · exact ⟨_, mNothingToUndo A, x8.same e9⟩
    · exact ⟨_, mNothingToRedo A, x9.same e10⟩
    · exact ⟨_, mBadFact A, (XIs.same (.inr ⟨_, x10⟩) e13)⟩
    · exact ⟨_, mBadPattern A, (XIs.same (.inr ⟨_, x11⟩) e14)⟩
    · exact ⟨_, mBadLine A, (XIs.same (.inr ⟨_, x12⟩) e15)⟩
    · exact ⟨_, mLoose A, (XIs.same (.inr ⟨_, x13⟩) e16)⟩
    · exact ⟨_, mNothingNew A, (XIs.same (.inr ⟨_, x14⟩) e17)⟩
    · exact ⟨_, mBadNode A, (XIs.same (.inr ⟨_, x15⟩) e18)⟩
    · exact ⟨_, mBadPart A, (XIs.same (.inr ⟨_, x16⟩) e19)⟩
    · exact ⟨_, mNoPart A, (XIs.same (.inr ⟨_, x17⟩) e21)⟩
    · exact ⟨_, mBadStrike A, (XIs.same (.inr ⟨_, x18⟩) e22)⟩
    · exact ⟨_, mNotAnAnswer A, (XIs.same (.inr ⟨_, x19⟩) e23)⟩
    · exact ⟨_, mBadQuestion A, (XIs.same (.inr ⟨_, x20⟩) e24)⟩
    · exact ⟨_, mNoName A, (XIs.same (.inr ⟨_, x21⟩) e25)⟩
    · exact ⟨_, mNotThere A, (XIs.same (.inr ⟨_, x22⟩) e26)⟩
    · exact ⟨_, mThereAlready A, (XIs.same (.inr ⟨_, x23⟩) e30)⟩
    · exact ⟨_, mBroken A, (XIs.same (.inr ⟨_, x24⟩) e31)⟩
end
end L2.K02
set_option Elab.async false
set_option linter.all false
set_option maxRecDepth 100000
set_option maxHeartbeats 8000000
/-! The law on errors: the attributes' texts, and to how many classes an error belongs. -/
namespace L2.K02
open PySem PySem.Spec PyProof.Rows L2.XVal
theorem call_reprK {X : Cx} {K : PySem.W.Frag} (e : X.K = K) (hg : X.A.guards = some []) (hu : X.A.units + 64 < cLine) : CallR X (.builtin "repr") (rRepr K) := by
  subst e
  exact call_repr hg hu
theorem lookup_one (f : Str) (x : V) : List.lookup f [(f, x)] = some x := by simp [List.lookup]
theorem lookup_fst (f g : Str) (x y : V) : List.lookup g [(g, y), (f, x)] = some y := by simp [List.lookup]
theorem lookup_snd {f g : Str} (h : (f == g) = false) (x y : V) : List.lookup f [(g, y), (f, x)] = some x := by simp [List.lookup, h]
section
variable {P : Program} {w : World} {K : PySem.W.Frag} {mg : Str → Option Value} {base : Heap} {A : Ads} {R : Addr}
/-! ### kept -/
def spKept (K : PySem.W.Frag) : Sp := fun vs H Q _ => ∃ (x y : V) (z1 z2 : Str), vs = [x, y] ∧ Shw K H x z1 ∧ Shw K H y z2 ∧ ∀ H', Same H H' → Q (.bl true) H'
theorem dp_strs {K : PySem.W.Frag} {H : Hp} : ∀ zs : List Str, DpAll K H (zs.map V.str) (zs.map PyData.str)
  | [] => .nil
  | z :: zs => .cons (.str z) (dp_strs zs)
theorem depth_strs : ∀ zs : List Str, (PyData.list (zs.map PyData.str)).canLay0 = (zs.all PyData.strOk)
  | [] => rfl
  | z :: zs => by
    have ih := depth_strs zs
    simp only [PyData.canLay0, PyData.canLayAll0, List.map_cons, List.all_cons] at ih ⊢
    rw [ih]
theorem vals_texts {K : PySem.W.Frag} {H : Hp} {x y : V} {z1 z2 : Str} (sx : Shw K H x z1) (sy : Shw K H y z2) (i : Nat) (v : V)
    (h : (List.replicate 16 x ++ [y, y])[i]? = some v) : ∃ z, (List.replicate 16 z1 ++ [z2, z2])[i]? = some z ∧ Shw K H v z := by
  by_cases hi : i < 16
  · rw [List.getElem?_append_left (by simpa using hi), List.getElem?_replicate, if_pos hi] at h
    cases h
    exact ⟨z1, by rw [List.getElem?_append_left (by simpa using hi), List.getElem?_replicate, if_pos hi], sx⟩
  · rw [List.getElem?_append_right (by simpa using hi)] at h
    rw [List.getElem?_append_right (by simpa using hi)]
    rw [List.length_replicate] at h ⊢
    match e : i - 16, h with
    | 0, h =>
      cases h
      exact ⟨z2, by simp, sy⟩
    | 1, h =>
      cases h
      exact ⟨z2, by simp, sy⟩
    | n + 2, h => simp at h
theorem scK : FnScope ["_law_one", "_law_two", "_law_found", "_law_second", "_law_value_here"] ["_law_one", "_law_two"] (defScope sKept) :=
  ⟨rfl, rfl, rfl, by decide +kernel, rfl, by decide +kernel, by decide +kernel⟩
theorem ok_kept {f : Addr} {fd : FuncData} (F : Fun K "_law_kept" "_law_kept" sKept f fd) (T : Tx K mg A R) :
    FnG P w K mg base CX0 3 f fd ["_law_one", "_law_two"] (spKept K) := by
  refine fnG_ok F scK (fun vs H Q E h => ?_) (fun cdv A' outer s H vs Q E hg hr2 h => ?_)
  · obtain ⟨x, y, z1, z2, rfl, _⟩ := h
    rfl
  · obtain ⟨x, y, z1, z2, rfl, sx, sy, k⟩ := h
    have hu := hr2.units
    have hgd : (A'.deeper (envOfC "_law_kept" (defScope sKept) s.heap.objs.size f cdv)).guards = some [] := hg
    refine ⟨_, pss_cons (ps_set (i := 2) scK.nd rfl (Or.inl rfl) (pe_lst (pa_cons (XVal.pe_xf (pe_k1 T.tBadFact hr2 (by rfl) (pv 0))) (pa_cons (XVal.pe_xf (pe_n1 T.tBadPattern hr2 (by rfl) (pv 0))) (pa_cons (XVal.pe_xf (pe_k1 T.tBadLine hr2 (by rfl) (pv 0))) (pa_cons (XVal.pe_xf (pe_n1 T.tLoose hr2 (by rfl) (pv 0))) pa_nil))))))
      (pss_cons (ps_set (i := 2) scK.nd rfl (Or.inl rfl) (pe_op op_cat (pv 2) (pe_lst (pa_cons (XVal.pe_xf (pe_k1 T.tNothingNew hr2 (by rfl) (pv 0))) (pa_cons (XVal.pe_xf (pe_n1 T.tBadNode hr2 (by rfl) (pv 0))) (pa_cons (XVal.pe_xf (pe_k1 T.tBadPart hr2 (by rfl) (pv 0))) (pa_cons (XVal.pe_xf (pe_n1 T.tNoPart hr2 (by rfl) (pv 0))) pa_nil)))))))
      (pss_cons (ps_set (i := 2) scK.nd rfl (Or.inl rfl) (pe_op op_cat (pv 2) (pe_lst (pa_cons (XVal.pe_xf (pe_k1 T.tBadStrike hr2 (by rfl) (pv 0))) (pa_cons (XVal.pe_xf (pe_k1 T.tNotAnAnswer hr2 (by rfl) (pv 0))) (pa_cons (XVal.pe_xf (pe_n1 T.tBadQuestion hr2 (by rfl) (pv 0))) pa_nil))))))
      (pss_cons (ps_set (i := 2) scK.nd rfl (Or.inl rfl) (pe_op op_cat (pv 2) (pe_lst (pa_cons (XVal.pe_xf (pe_k1 T.tNoName hr2 (by rfl) (pv 0))) (pa_cons (XVal.pe_xf (pe_k1 T.tNotThere hr2 (by rfl) (pv 0))) (pa_cons (XVal.pe_xf (pe_n1 T.tThereAlready hr2 (by rfl) (pv 0))) pa_nil))))))
      (pss_cons (ps_set (i := 2) scK.nd rfl (Or.inl rfl) (pe_op op_cat (pv 2) (pe_lst (pa_cons (XVal.pe_xf (pe_n2 T.tBroken hr2 (by rfl) (pv 0) (pv 1))) (pa_cons (XVal.pe_xf (pe_t2 T.tBroken hr2 (by rfl) (pv 1) (pv 0))) pa_nil)))))
      (pss_cons (ps_set (i := 3) scK.nd rfl (Or.inl rfl) (pe_lst (pa_cons (XVal.pe_xf (pe_n2 T.tBroken hr2 (by rfl) (pv 0) (pv 1))) (pa_cons (XVal.pe_xf (pe_k2 T.tBroken hr2 (by rfl) (pv 0) (pv 1))) pa_nil))))
      (pss_one (ps_ret (pe_cmpR (op_eqD hu)
        (pe_lc (own := [("_law_value_here", 4)]) (g := gName 4) (tt := tYes) rfl scK.nd (pi_list (pe_op op_cat (pv 2) (pv 3)))
          (blkOk_by (own := [("_law_value_here", 4)]) (N := ["_law_one", "_law_two", "_law_found", "_law_second", "_law_value_here"]) (sc := defScope sKept) (by decide +kernel))
          (fun _ _ _ _ _ => pg_name (i := 4) scK.nd rfl (Or.inl rfl)) (fun _ _ _ _ _ => pts_nil) (fun _ _ _ _ _ => (pe_callB (id := "repr") (r := rRepr K) (call_reprK rfl hgd hu) (by rfl) T.gp (by decide +kernel) (pa_cons (pv 4) pa_nil))))
        (pe_op op_cat (pe_op op_rep (pe_lst (pa_cons (pe_callB (id := "repr") (r := rRepr K) (call_reprK rfl hgd hu) (by rfl) T.gp (by decide +kernel) (pa_cons (pv 0) pa_nil)) pa_nil)) pe_int) (pe_op op_rep (pe_lst (pa_cons (pe_callB (id := "repr") (r := rRepr K) (call_reprK rfl hgd hu) (by rfl) T.gp (by decide +kernel) (pa_cons (pv 1) pa_nil)) pa_nil)) pe_int)) (nomark _))))))))), ?_⟩
    refine ⟨_, rfl, rfl, rfl, fun a1 G1 s1 x1 => ⟨a1, A.cBadFact, _, _, rfl, x1, T.tBadFact.xf, T.tBadFact.no, lookup_one _ _, ?_⟩⟩
    refine ⟨_, rfl, rfl, rfl, fun a2 G2 s2 x2 => ⟨a2, A.cBadPattern, _, _, rfl, x2, T.tBadPattern.xf, T.tBadPattern.no, lookup_one _ _, ?_⟩⟩
    refine ⟨_, rfl, rfl, rfl, fun a3 G3 s3 x3 => ⟨a3, A.cBadLine, _, _, rfl, x3, T.tBadLine.xf, T.tBadLine.no, lookup_one _ _, ?_⟩⟩
    refine ⟨_, rfl, rfl, rfl, fun a4 G4 s4 x4 => ⟨a4, A.cLoose, _, _, rfl, x4, T.tLoose.xf, T.tLoose.no, lookup_one _ _, ?_⟩⟩
    refine ⟨(by show 4 ≤ sizeLine; decide), fun pL0 nL0 => ?_⟩
    have uL0 := same_new (o := .lst [x, x, x, x]) nL0
    refine ⟨_, rfl, ?_⟩
    refine ⟨_, rfl, rfl, rfl, fun a5 G5 s5 x5 => ⟨a5, A.cNothingNew, _, _, rfl, x5, T.tNothingNew.xf, T.tNothingNew.no, lookup_one _ _, ?_⟩⟩
    refine ⟨_, rfl, rfl, rfl, fun a6 G6 s6 x6 => ⟨a6, A.cBadNode, _, _, rfl, x6, T.tBadNode.xf, T.tBadNode.no, lookup_one _ _, ?_⟩⟩
    refine ⟨_, rfl, rfl, rfl, fun a7 G7 s7 x7 => ⟨a7, A.cBadPart, _, _, rfl, x7, T.tBadPart.xf, T.tBadPart.no, lookup_one _ _, ?_⟩⟩
    refine ⟨_, rfl, rfl, rfl, fun a8 G8 s8 x8 => ⟨a8, A.cNoPart, _, _, rfl, x8, T.tNoPart.xf, T.tNoPart.no, lookup_one _ _, ?_⟩⟩
    refine ⟨(by show 4 ≤ sizeLine; decide), fun pL1 nL1 => ?_⟩
    have uL1 := same_new (o := .lst [x, x, x, x]) nL1
    have b1 := (uL1 _ _ (s8 _ _ (s7 _ _ (s6 _ _ (s5 _ _ (upd_same (a := pL0)))))))
    refine ⟨pL0, pL1, _, _, rfl, rfl, b1, upd_same, (by show 4 + 4 ≤ sizeLine; decide), fun pM1 nM1 => ?_⟩
    have uM1 := same_new (o := .lst ([x, x, x, x] ++ [x, x, x, x])) nM1
    refine ⟨_, rfl, ?_⟩
    refine ⟨_, rfl, rfl, rfl, fun a9 G9 s9 x9 => ⟨a9, A.cBadStrike, _, _, rfl, x9, T.tBadStrike.xf, T.tBadStrike.no, lookup_one _ _, ?_⟩⟩
    refine ⟨_, rfl, rfl, rfl, fun a10 G10 s10 x10 => ⟨a10, A.cNotAnAnswer, _, _, rfl, x10, T.tNotAnAnswer.xf, T.tNotAnAnswer.no, lookup_one _ _, ?_⟩⟩
    refine ⟨_, rfl, rfl, rfl, fun a11 G11 s11 x11 => ⟨a11, A.cBadQuestion, _, _, rfl, x11, T.tBadQuestion.xf, T.tBadQuestion.no, lookup_one _ _, ?_⟩⟩
    refine ⟨(by show 3 ≤ sizeLine; decide), fun pL2 nL2 => ?_⟩
    have uL2 := same_new (o := .lst [x, x, x]) nL2
    have b2 := (uL2 _ _ (s11 _ _ (s10 _ _ (s9 _ _ (upd_same (a := pM1))))))
    refine ⟨pM1, pL2, _, _, rfl, rfl, b2, upd_same, (by show 8 + 3 ≤ sizeLine; decide), fun pM2 nM2 => ?_⟩
    have uM2 := same_new (o := .lst (([x, x, x, x] ++ [x, x, x, x]) ++ [x, x, x])) nM2
    refine ⟨_, rfl, ?_⟩
    refine ⟨_, rfl, rfl, rfl, fun a12 G12 s12 x12 => ⟨a12, A.cNoName, _, _, rfl, x12, T.tNoName.xf, T.tNoName.no, lookup_one _ _, ?_⟩⟩
    refine ⟨_, rfl, rfl, rfl, fun a13 G13 s13 x13 => ⟨a13, A.cNotThere, _, _, rfl, x13, T.tNotThere.xf, T.tNotThere.no, lookup_one _ _, ?_⟩⟩
    refine ⟨_, rfl, rfl, rfl, fun a14 G14 s14 x14 => ⟨a14, A.cThereAlready, _, _, rfl, x14, T.tThereAlready.xf, T.tThereAlready.no, lookup_one _ _, ?_⟩⟩
    refine ⟨(by show 3 ≤ sizeLine; decide), fun pL3 nL3 => ?_⟩
    have uL3 := same_new (o := .lst [x, x, x]) nL3
    have b3 := (uL3 _ _ (s14 _ _ (s13 _ _ (s12 _ _ (upd_same (a := pM2))))))
    refine ⟨pM2, pL3, _, _, rfl, rfl, b3, upd_same, (by show 11 + 3 ≤ sizeLine; decide), fun pM3 nM3 => ?_⟩
    have uM3 := same_new (o := .lst ((([x, x, x, x] ++ [x, x, x, x]) ++ [x, x, x]) ++ [x, x, x])) nM3
    refine ⟨_, rfl, ?_⟩
    refine ⟨_, rfl, _, rfl, rfl, rfl, fun a15 G15 s15 x15 => ⟨a15, A.cBroken, _, _, rfl, x15, T.tBroken.xf, T.tBroken.no, lookup_snd (by decide +kernel) _ _, ?_⟩⟩
    refine ⟨_, rfl, _, rfl, rfl, rfl, fun a16 G16 s16 x16 => ⟨a16, A.cBroken, _, _, rfl, x16, T.tBroken.xf, T.tBroken.no, lookup_snd (by decide +kernel) _ _, ?_⟩⟩
    refine ⟨(by show 2 ≤ sizeLine; decide), fun pL4 nL4 => ?_⟩
    have uL4 := same_new (o := .lst [x, x]) nL4
    have b4 := (uL4 _ _ (s16 _ _ (s15 _ _ (upd_same (a := pM3)))))
    refine ⟨pM3, pL4, _, _, rfl, rfl, b4, upd_same, (by show 14 + 2 ≤ sizeLine; decide), fun pM4 nM4 => ?_⟩
    have uM4 := same_new (o := .lst (((([x, x, x, x] ++ [x, x, x, x]) ++ [x, x, x]) ++ [x, x, x]) ++ [x, x])) nM4
    refine ⟨_, rfl, _, rfl, rfl, rfl, fun a17 G17 s17 x17 => ⟨a17, A.cBroken, _, _, rfl, x17, T.tBroken.xf, T.tBroken.no2, lookup_fst _ _ _ _, ?_⟩⟩
    refine ⟨_, rfl, _, rfl, rfl, rfl, fun a18 G18 s18 x18 => ⟨a18, A.cBroken, _, _, rfl, x18, T.tBroken.xf, T.tBroken.no2, lookup_fst _ _ _ _, ?_⟩⟩
    refine ⟨(by show 2 ≤ sizeLine; decide), fun pS nS => ?_⟩
    have uS := same_new (o := .lst [y, y]) nS
    have bS := (uS _ _ (s18 _ _ (s17 _ _ (upd_same (a := pM4)))))
    refine ⟨_, rfl, _, rfl, pM4, pS, _, _, rfl, rfl, bS, upd_same, (by show 16 + 2 ≤ sizeLine; decide), fun pF nF => ?_⟩
    have uF := same_new (o := .lst ((((([x, x, x, x] ++ [x, x, x, x]) ++ [x, x, x]) ++ [x, x, x]) ++ [x, x]) ++ [y, y])) nF
    have e28 := uF
    have e27 := uS.trans e28
    have e26 := s18.trans e27
    have e25 := s17.trans e26
    have e24 := uM4.trans e25
    have e23 := uL4.trans e24
    have e22 := s16.trans e23
    have e21 := s15.trans e22
    have e20 := uM3.trans e21
    have e19 := uL3.trans e20
    have e18 := s14.trans e19
    have e17 := s13.trans e18
    have e16 := s12.trans e17
    have e15 := uM2.trans e16
    have e14 := uL2.trans e15
    have e13 := s11.trans e14
    have e12 := s10.trans e13
    have e11 := s9.trans e12
    have e10 := uM1.trans e11
    have e9 := uL1.trans e10
    have e8 := s8.trans e9
    have e7 := s7.trans e8
    have e6 := s6.trans e7
    have e5 := s5.trans e6
    have e4 := uL0.trans e5
    have e3 := s4.trans e4
    have e2 := s3.trans e3
    have e1 := s2.trans e2
    have e0 := s1.trans e1
    have sx1 := sx.same e0
    have sy1 := sy.same e0
    refine ⟨pF, rfl, ⟨_, SqL.of upd_same⟩, fun D nD => ?_⟩
    have uD := same_new (o := .lst []) nD
    have hx := uD _ _ (upd_same (a := pF))
    have sx2 := sx1.same uD
    have sy2 := sy1.same uD
    have eD := e0.trans uD
    have pair : ∀ i v, (List.replicate 16 x ++ [y, y])[i]? = some v → ∃ z, (List.replicate 16 z1 ++ [z2, z2])[i]? = some z ∧ Shw K _ v z := vals_texts sx1 sy1
    have hb := SqL.of (K := K) (upd_same (H := upd G18 pS (.lst [y, y])) (a := pF) (o := .lst (List.replicate 16 x ++ [y, y])))
    have len16 : (List.replicate 16 x ++ [y, y]).length = 18 := rfl
    refine lc_list (K := K) (a := pF) (xs := List.replicate 16 x ++ [y, y]) (fun i H5 => Same (upd (upd G18 pS (.lst [y, y])) pF (.lst (List.replicate 16 x ++ [y, y]))) H5 ∧
      H5 D = some (.lst (((List.replicate 16 z1 ++ [z2, z2]).take i).map V.str))) ⟨uD, upd_same⟩ (fun i H5 _ h5 => h5.1.seq hb) ?_ ?_
    · rintro i v H5 hi ⟨s5, hD⟩
      obtain ⟨z, hz, sv⟩ := pair i v hi
      refine ⟨rfl, ?_⟩
      dsimp only [tYes]
      rw [if_pos rfl]
      refine ⟨_, rfl, v, z, rfl, sv.same s5, _, hD, ?_, fun b o e => ?_, ?_⟩
      · rw [List.length_map, List.length_take]
        exact Nat.lt_of_le_of_lt (Nat.min_le_right _ _) (by show 18 < sizeLine; decide)
      · have nb : b ≠ D := ne_of_none e nD
        rw [upd_ne nb]
        exact s5 b o e
      · rw [upd_same, List.take_add_one, hz]
        simp
    · rintro H5 ⟨s5, hD⟩
      have hD' : H5 D = some (.lst ((List.replicate 16 z1 ++ [z2, z2]).map V.str)) := hD
      have e5 := e0.trans s5
      have w1 := sx.same e5
      refine ⟨_, rfl, x, z1, rfl, w1, (by show 1 ≤ sizeLine; decide), fun q1 m1 => ?_⟩
      have v1 := same_new (o := .lst [V.str z1]) m1
      refine ⟨q1, 16, _, rfl, rfl, upd_same, by decide, by decide, (by show 16 ≤ sizeLine; decide), fun q2 m2 => ?_⟩
      have v2 := same_new (o := .lst (List.replicate (Int.toNat 16) [V.str z1]).flatten) m2
      have w2 := sy.same ((e5.trans v1).trans v2)
      refine ⟨_, rfl, y, z2, rfl, w2, (by show 1 ≤ sizeLine; decide), fun q3 m3 => ?_⟩
      have v3 := same_new (o := .lst [V.str z2]) m3
      refine ⟨q3, 2, _, rfl, rfl, upd_same, by decide, by decide, (by show 2 ≤ sizeLine; decide), fun q4 m4 => ?_⟩
      have v4 := same_new (o := .lst (List.replicate (Int.toNat 2) [V.str z2]).flatten) m4
      refine ⟨q2, q4, _, _, rfl, rfl, v4 _ _ (v3 _ _ upd_same), upd_same, (by show 16 + 2 ≤ sizeLine; decide), fun q5 m5 => ?_⟩
      have v5 := same_new (o := .lst ((List.replicate (Int.toNat 16) [V.str z1]).flatten ++ (List.replicate (Int.toNat 2) [V.str z2]).flatten)) m5
      have last := (((v1.trans v2).trans v3).trans v4).trans v5
      have ok : PyData.canLay0 (.list ((List.replicate 16 z1 ++ [z2, z2]).map PyData.str)) = true := by
        rw [depth_strs]
        simp [sx.ok, sy.ok]
      have sh : SeqAt.shaped (.list ((List.replicate 16 z1 ++ [z2, z2]).map PyData.str)) = true := by
        unfold SeqAt.shaped
        rw [ok]
        rfl
      refine ⟨_, _, .lst (SqL.of (last _ _ hD')) (dp_strs _), .lst (SqL.of (xs := (List.replicate 16 z1 ++ [z2, z2]).map V.str) upd_same) (dp_strs _), sh, sh, ?_⟩
      rw [SeqAt.eqv_refl _ ok]
      exact k _ (e5.trans last)
end
end L2.K02
set_option Elab.async false
set_option linter.all false
set_option maxRecDepth 100000
set_option maxHeartbeats 8000000
/-! The law on errors: each one belongs to one class; the law itself. -/
namespace L2.K02
open PySem PySem.Spec PyProof.Rows L2.XVal
open Builtin.Int (intBits)
theorem count_none {C : Addr} : ∀ l : List Addr, C ∉ l → ((l.map fun D => decide (C = D)).filter id).length = 0
  | [], _ => rfl
  | D :: l, h => by
    have h1 : ¬ C = D := fun e => h (by rw [e]; exact List.mem_cons_self)
    have h2 : C ∉ l := fun e => h (List.mem_cons_of_mem _ e)
    have ih := count_none l h2
    simp [h1]
    simpa using ih
theorem count_one {C : Addr} : ∀ l : List Addr, l.Nodup → C ∈ l → ((l.map fun D => decide (C = D)).filter id).length = 1
  | [], _, h => by cases h
  | D :: l, nd, h => by
    obtain ⟨n1, n2⟩ := List.nodup_cons.mp nd
    by_cases e : C = D
    · subst e
      have ih := count_none l n1
      rw [List.map_cons, List.filter_cons_of_pos (by simp), List.length_cons, ih]
    · have hm : C ∈ l := (List.mem_cons.mp h).resolve_left e
      rw [List.map_cons, List.filter_cons_of_neg (by simp [e])]
      exact count_one l n2 hm
section
variable {P : Program} {w : World} {K : PySem.W.Frag} {mg : Str → Option Value} {base : Heap} {A : Ads} {R : Addr}
/-! ### classes -/
def spClasses (A : Ads) : Sp := fun vs H Q _ => ∃ a C : Addr, vs = [.ref a] ∧ C ∈ A.all ∧ XIs H a C ∧ ∀ H', Same H H' → Q (.int 1) H'
theorem scC : FnScope ["_law_e", "_law_found", "_law_bit"] ["_law_e"] (defScope sClasses) := ⟨rfl, rfl, rfl, by decide +kernel, rfl, by decide +kernel, by decide +kernel⟩
theorem ok_classes {f : Addr} {fd : FuncData} (F : Fun K "_law_classes" "_law_classes" sClasses f fd) (T : Tx K mg A R) :
    FnOk P w K mg base CX0 3 f fd ["_law_e"] (spClasses A) := by
  refine F.ok scC (fun vs H Q E h => ?_) (fun cdv A' outer s H vs Q E hr2 h => ?_)
  · obtain ⟨a, C, rfl, _⟩ := h
    rfl
  · obtain ⟨a, C, rfl, hC, x0, k⟩ := h
    have row := T.row C hC
    refine ⟨_, pss_cons (ps_set (i := 1) scC.nd rfl (Or.inl rfl) (pe_lst (pa_cons (pe_callB (id := "isinstance") call_xis (by rfl) T.gi (by decide +kernel) (pa_cons (pv 0) (pa_cons (pe_glob (v := .ref A.cBadText) (u := .ref A.cBadText) (by rfl) T.tBadText.gC rfl) pa_nil))) (pa_cons (pe_callB (id := "isinstance") call_xis (by rfl) T.gi (by decide +kernel) (pa_cons (pv 0) (pa_cons (pe_glob (v := .ref A.cBadKey) (u := .ref A.cBadKey) (by rfl) T.tBadKey.gC rfl) pa_nil))) (pa_cons (pe_callB (id := "isinstance") call_xis (by rfl) T.gi (by decide +kernel) (pa_cons (pv 0) (pa_cons (pe_glob (v := .ref A.cBadRule) (u := .ref A.cBadRule) (by rfl) T.tBadRule.gC rfl) pa_nil))) (pa_cons (pe_callB (id := "isinstance") call_xis (by rfl) T.gi (by decide +kernel) (pa_cons (pv 0) (pa_cons (pe_glob (v := .ref A.cClash) (u := .ref A.cClash) (by rfl) T.tClash.gC rfl) pa_nil))) pa_nil))))))
      (pss_cons (ps_set (i := 1) scC.nd rfl (Or.inl rfl) (pe_op op_cat (pv 1) (pe_lst (pa_cons (pe_callB (id := "isinstance") call_xis (by rfl) T.gi (by decide +kernel) (pa_cons (pv 0) (pa_cons (pe_glob (v := .ref A.cBadNodes) (u := .ref A.cBadNodes) (by rfl) T.tBadNodes.gC rfl) pa_nil))) (pa_cons (pe_callB (id := "isinstance") call_xis (by rfl) T.gi (by decide +kernel) (pa_cons (pv 0) (pa_cons (pe_glob (v := .ref A.cBadNames) (u := .ref A.cBadNames) (by rfl) T.tBadNames.gC rfl) pa_nil))) (pa_cons (pe_callB (id := "isinstance") call_xis (by rfl) T.gi (by decide +kernel) (pa_cons (pv 0) (pa_cons (pe_glob (v := .ref A.cOrBelow) (u := .ref A.cOrBelow) (by rfl) T.tOrBelow.gC rfl) pa_nil))) pa_nil))))))
      (pss_cons (ps_set (i := 1) scC.nd rfl (Or.inl rfl) (pe_op op_cat (pv 1) (pe_lst (pa_cons (pe_callB (id := "isinstance") call_xis (by rfl) T.gi (by decide +kernel) (pa_cons (pv 0) (pa_cons (pe_glob (v := .ref A.cNothingToUndo) (u := .ref A.cNothingToUndo) (by rfl) T.tNothingToUndo.gC rfl) pa_nil))) (pa_cons (pe_callB (id := "isinstance") call_xis (by rfl) T.gi (by decide +kernel) (pa_cons (pv 0) (pa_cons (pe_glob (v := .ref A.cNothingToRedo) (u := .ref A.cNothingToRedo) (by rfl) T.tNothingToRedo.gC rfl) pa_nil))) (pa_cons (pe_callB (id := "isinstance") call_xis (by rfl) T.gi (by decide +kernel) (pa_cons (pv 0) (pa_cons (pe_glob (v := .ref A.cBadFact) (u := .ref A.cBadFact) (by rfl) T.tBadFact.gC rfl) pa_nil))) pa_nil))))))
      (pss_cons (ps_set (i := 1) scC.nd rfl (Or.inl rfl) (pe_op op_cat (pv 1) (pe_lst (pa_cons (pe_callB (id := "isinstance") call_xis (by rfl) T.gi (by decide +kernel) (pa_cons (pv 0) (pa_cons (pe_glob (v := .ref A.cBadPattern) (u := .ref A.cBadPattern) (by rfl) T.tBadPattern.gC rfl) pa_nil))) (pa_cons (pe_callB (id := "isinstance") call_xis (by rfl) T.gi (by decide +kernel) (pa_cons (pv 0) (pa_cons (pe_glob (v := .ref A.cBadLine) (u := .ref A.cBadLine) (by rfl) T.tBadLine.gC rfl) pa_nil))) (pa_cons (pe_callB (id := "isinstance") call_xis (by rfl) T.gi (by decide +kernel) (pa_cons (pv 0) (pa_cons (pe_glob (v := .ref A.cLoose) (u := .ref A.cLoose) (by rfl) T.tLoose.gC rfl) pa_nil))) pa_nil))))))
      (pss_cons (ps_set (i := 1) scC.nd rfl (Or.inl rfl) (pe_op op_cat (pv 1) (pe_lst (pa_cons (pe_callB (id := "isinstance") call_xis (by rfl) T.gi (by decide +kernel) (pa_cons (pv 0) (pa_cons (pe_glob (v := .ref A.cNothingNew) (u := .ref A.cNothingNew) (by rfl) T.tNothingNew.gC rfl) pa_nil))) (pa_cons (pe_callB (id := "isinstance") call_xis (by rfl) T.gi (by decide +kernel) (pa_cons (pv 0) (pa_cons (pe_glob (v := .ref A.cBadNode) (u := .ref A.cBadNode) (by rfl) T.tBadNode.gC rfl) pa_nil))) (pa_cons (pe_callB (id := "isinstance") call_xis (by rfl) T.gi (by decide +kernel) (pa_cons (pv 0) (pa_cons (pe_glob (v := .ref A.cBadPart) (u := .ref A.cBadPart) (by rfl) T.tBadPart.gC rfl) pa_nil))) pa_nil))))))
      (pss_cons (ps_set (i := 1) scC.nd rfl (Or.inl rfl) (pe_op op_cat (pv 1) (pe_lst (pa_cons (pe_callB (id := "isinstance") call_xis (by rfl) T.gi (by decide +kernel) (pa_cons (pv 0) (pa_cons (pe_glob (v := .ref A.cNoPart) (u := .ref A.cNoPart) (by rfl) T.tNoPart.gC rfl) pa_nil))) (pa_cons (pe_callB (id := "isinstance") call_xis (by rfl) T.gi (by decide +kernel) (pa_cons (pv 0) (pa_cons (pe_glob (v := .ref A.cBadStrike) (u := .ref A.cBadStrike) (by rfl) T.tBadStrike.gC rfl) pa_nil))) pa_nil)))))
      (pss_cons (ps_set (i := 1) scC.nd rfl (Or.inl rfl) (pe_op op_cat (pv 1) (pe_lst (pa_cons (pe_callB (id := "isinstance") call_xis (by rfl) T.gi (by decide +kernel) (pa_cons (pv 0) (pa_cons (pe_glob (v := .ref A.cNotAnAnswer) (u := .ref A.cNotAnAnswer) (by rfl) T.tNotAnAnswer.gC rfl) pa_nil))) (pa_cons (pe_callB (id := "isinstance") call_xis (by rfl) T.gi (by decide +kernel) (pa_cons (pv 0) (pa_cons (pe_glob (v := .ref A.cBadQuestion) (u := .ref A.cBadQuestion) (by rfl) T.tBadQuestion.gC rfl) pa_nil))) (pa_cons (pe_callB (id := "isinstance") call_xis (by rfl) T.gi (by decide +kernel) (pa_cons (pv 0) (pa_cons (pe_glob (v := .ref A.cNoName) (u := .ref A.cNoName) (by rfl) T.tNoName.gC rfl) pa_nil))) pa_nil))))))
      (pss_cons (ps_set (i := 1) scC.nd rfl (Or.inl rfl) (pe_op op_cat (pv 1) (pe_lst (pa_cons (pe_callB (id := "isinstance") call_xis (by rfl) T.gi (by decide +kernel) (pa_cons (pv 0) (pa_cons (pe_glob (v := .ref A.cNotThere) (u := .ref A.cNotThere) (by rfl) T.tNotThere.gC rfl) pa_nil))) (pa_cons (pe_callB (id := "isinstance") call_xis (by rfl) T.gi (by decide +kernel) (pa_cons (pv 0) (pa_cons (pe_glob (v := .ref A.cThereAlready) (u := .ref A.cThereAlready) (by rfl) T.tThereAlready.gC rfl) pa_nil))) (pa_cons (pe_callB (id := "isinstance") call_xis (by rfl) T.gi (by decide +kernel) (pa_cons (pv 0) (pa_cons (pe_glob (v := .ref A.cBroken) (u := .ref A.cBroken) (by rfl) T.tBroken.gC rfl) pa_nil))) pa_nil))))))
      (pss_one (ps_ret (pe_callB call_len_seq (by rfl) T.gl (by decide +kernel) (pa_cons
        (pe_lc (own := [("_law_bit", 2)]) (g := gName 2) (tt := tB (tVar 2)) rfl scC.nd (pi_list (pv 1))
          (blkOk_by (own := [("_law_bit", 2)]) (N := ["_law_e", "_law_found", "_law_bit"]) (sc := defScope sClasses) (by decide +kernel))
          (fun _ _ _ _ _ => pg_name (i := 2) scC.nd rfl (Or.inl rfl)) (fun _ _ _ _ _ => pts_one (pt_val (pv 2))) (fun _ _ _ _ _ => pv 2)) pa_nil))))))))))), ?_⟩
    refine ⟨_, rfl, a, C, _, _, _, rfl, x0, row.ec, .own _, row.kit _ (mBadText A), ?_⟩
    refine ⟨_, rfl, a, C, _, _, _, rfl, x0, row.ec, .own _, row.kit _ (mBadKey A), ?_⟩
    refine ⟨_, rfl, a, C, _, _, _, rfl, x0, row.ec, .own _, row.kit _ (mBadRule A), ?_⟩
    refine ⟨_, rfl, a, C, _, _, _, rfl, x0, row.ec, .own _, row.kit _ (mClash A), ?_⟩
    refine ⟨(by show 4 ≤ sizeLine; decide), fun p0 n0 => ?_⟩
    have u0 := same_new (o := .lst [V.bl (decide (C = A.cBadText)), V.bl (decide (C = A.cBadKey)), V.bl (decide (C = A.cBadRule)), V.bl (decide (C = A.cClash))]) n0
    have y0 := x0.same u0
    refine ⟨_, rfl, ?_⟩
    refine ⟨_, rfl, a, C, _, _, _, rfl, y0, row.ec, .own _, row.kit _ (mBadNodes A), ?_⟩
    refine ⟨_, rfl, a, C, _, _, _, rfl, y0, row.ec, .own _, row.kit _ (mBadNames A), ?_⟩
    refine ⟨_, rfl, a, C, _, _, _, rfl, y0, row.ec, .own _, row.kit _ (mOrBelow A), ?_⟩
    refine ⟨(by show 3 ≤ sizeLine; decide), fun p1 n1 => ?_⟩
    have u1 := same_new (o := .lst [V.bl (decide (C = A.cBadNodes)), V.bl (decide (C = A.cBadNames)), V.bl (decide (C = A.cOrBelow))]) n1
    have y1 := y0.same u1
    refine ⟨p0, p1, _, _, rfl, rfl, u1 _ _ upd_same, upd_same, (by show 4 + 3 ≤ sizeLine; decide), fun q1 m1 => ?_⟩
    have w1 := same_new (o := .lst ([V.bl (decide (C = A.cBadText)), V.bl (decide (C = A.cBadKey)), V.bl (decide (C = A.cBadRule)), V.bl (decide (C = A.cClash))] ++ [V.bl (decide (C = A.cBadNodes)), V.bl (decide (C = A.cBadNames)), V.bl (decide (C = A.cOrBelow))])) m1
    have z1 := y1.same w1
    refine ⟨_, rfl, ?_⟩
    refine ⟨_, rfl, a, C, _, _, _, rfl, z1, row.ec, .own _, row.kit _ (mNothingToUndo A), ?_⟩
    refine ⟨_, rfl, a, C, _, _, _, rfl, z1, row.ec, .own _, row.kit _ (mNothingToRedo A), ?_⟩
    refine ⟨_, rfl, a, C, _, _, _, rfl, z1, row.ec, .own _, row.kit _ (mBadFact A), ?_⟩
    refine ⟨(by show 3 ≤ sizeLine; decide), fun p2 n2 => ?_⟩
    have u2 := same_new (o := .lst [V.bl (decide (C = A.cNothingToUndo)), V.bl (decide (C = A.cNothingToRedo)), V.bl (decide (C = A.cBadFact))]) n2
    have y2 := z1.same u2
    refine ⟨q1, p2, _, _, rfl, rfl, u2 _ _ upd_same, upd_same, (by show 7 + 3 ≤ sizeLine; decide), fun q2 m2 => ?_⟩
    have w2 := same_new (o := .lst (([V.bl (decide (C = A.cBadText)), V.bl (decide (C = A.cBadKey)), V.bl (decide (C = A.cBadRule)), V.bl (decide (C = A.cClash))] ++ [V.bl (decide (C = A.cBadNodes)), V.bl (decide (C = A.cBadNames)), V.bl (decide (C = A.cOrBelow))]) ++ [V.bl (decide (C = A.cNothingToUndo)), V.bl (decide (C = A.cNothingToRedo)), V.bl (decide (C = A.cBadFact))])) m2
    have z2 := y2.same w2
    refine ⟨_, rfl, ?_⟩
    refine ⟨_, rfl, a, C, _, _, _, rfl, z2, row.ec, .own _, row.kit _ (mBadPattern A), ?_⟩
    refine ⟨_, rfl, a, C, _, _, _, rfl, z2, row.ec, .own _, row.kit _ (mBadLine A), ?_⟩
    refine ⟨_, rfl, a, C, _, _, _, rfl, z2, row.ec, .own _, row.kit _ (mLoose A), ?_⟩
    refine ⟨(by show 3 ≤ sizeLine; decide), fun p3 n3 => ?_⟩
    have u3 := same_new (o := .lst [V.bl (decide (C = A.cBadPattern)), V.bl (decide (C = A.cBadLine)), V.bl (decide (C = A.cLoose))]) n3
    have y3 := z2.same u3
    refine ⟨q2, p3, _, _, rfl, rfl, u3 _ _ upd_same, upd_same, (by show 10 + 3 ≤ sizeLine; decide), fun q3 m3 => ?_⟩
    have w3 := same_new (o := .lst ((([V.bl (decide (C = A.cBadText)), V.bl (decide (C = A.cBadKey)), V.bl (decide (C = A.cBadRule)), V.bl (decide (C = A.cClash))] ++ [V.bl (decide (C = A.cBadNodes)), V.bl (decide (C = A.cBadNames)), V.bl (decide (C = A.cOrBelow))]) ++ [V.bl (decide (C = A.cNothingToUndo)), V.bl (decide (C = A.cNothingToRedo)), V.bl (decide (C = A.cBadFact))]) ++ [V.bl (decide (C = A.cBadPattern)), V.bl (decide (C = A.cBadLine)), V.bl (decide (C = A.cLoose))])) m3
    have z3 := y3.same w3
    refine ⟨_, rfl, ?_⟩
    refine ⟨_, rfl, a, C, _, _, _, rfl, z3, row.ec, .own _, row.kit _ (mNothingNew A), ?_⟩
    refine ⟨_, rfl, a, C, _, _, _, rfl, z3, row.ec, .own _, row.kit _ (mBadNode A), ?_⟩
    refine ⟨_, rfl, a, C, _, _, _, rfl, z3, row.ec, .own _, row.kit _ (mBadPart A), ?_⟩
    refine ⟨(by show 3 ≤ sizeLine; decide), fun p4 n4 => ?_⟩
    have u4 := same_new (o := .lst [V.bl (decide (C = A.cNothingNew)), V.bl (decide (C = A.cBadNode)), V.bl (decide (C = A.cBadPart))]) n4
    have y4 := z3.same u4
    refine ⟨q3, p4, _, _, rfl, rfl, u4 _ _ upd_same, upd_same, (by show 13 + 3 ≤ sizeLine; decide), fun q4 m4 => ?_⟩
    have w4 := same_new (o := .lst (((([V.bl (decide (C = A.cBadText)), V.bl (decide (C = A.cBadKey)), V.bl (decide (C = A.cBadRule)), V.bl (decide (C = A.cClash))] ++ [V.bl (decide (C = A.cBadNodes)), V.bl (decide (C = A.cBadNames)), V.bl (decide (C = A.cOrBelow))]) ++ [V.bl (decide (C = A.cNothingToUndo)), V.bl (decide (C = A.cNothingToRedo)), V.bl (decide (C = A.cBadFact))]) ++ [V.bl (decide (C = A.cBadPattern)), V.bl (decide (C = A.cBadLine)), V.bl (decide (C = A.cLoose))]) ++ [V.bl (decide (C = A.cNothingNew)), V.bl (decide (C = A.cBadNode)), V.bl (decide (C = A.cBadPart))])) m4
    have z4 := y4.same w4
    refine ⟨_, rfl, ?_⟩
    refine ⟨_, rfl, a, C, _, _, _, rfl, z4, row.ec, .own _, row.kit _ (mNoPart A), ?_⟩
    refine ⟨_, rfl, a, C, _, _, _, rfl, z4, row.ec, .own _, row.kit _ (mBadStrike A), ?_⟩
    refine ⟨(by show 2 ≤ sizeLine; decide), fun p5 n5 => ?_⟩
    have u5 := same_new (o := .lst [V.bl (decide (C = A.cNoPart)), V.bl (decide (C = A.cBadStrike))]) n5
    have y5 := z4.same u5
    refine ⟨q4, p5, _, _, rfl, rfl, u5 _ _ upd_same, upd_same, (by show 16 + 2 ≤ sizeLine; decide), fun q5 m5 => ?_⟩
    have w5 := same_new (o := .lst ((((([V.bl (decide (C = A.cBadText)), V.bl (decide (C = A.cBadKey)), V.bl (decide (C = A.cBadRule)), V.bl (decide (C = A.cClash))] ++ [V.bl (decide (C = A.cBadNodes)), V.bl (decide (C = A.cBadNames)), V.bl (decide (C = A.cOrBelow))]) ++ [V.bl (decide (C = A.cNothingToUndo)), V.bl (decide (C = A.cNothingToRedo)), V.bl (decide (C = A.cBadFact))]) ++ [V.bl (decide (C = A.cBadPattern)), V.bl (decide (C = A.cBadLine)), V.bl (decide (C = A.cLoose))]) ++ [V.bl (decide (C = A.cNothingNew)), V.bl (decide (C = A.cBadNode)), V.bl (decide (C = A.cBadPart))]) ++ [V.bl (decide (C = A.cNoPart)), V.bl (decide (C = A.cBadStrike))])) m5
    have z5 := y5.same w5
    refine ⟨_, rfl, ?_⟩
    refine ⟨_, rfl, a, C, _, _, _, rfl, z5, row.ec, .own _, row.kit _ (mNotAnAnswer A), ?_⟩
    refine ⟨_, rfl, a, C, _, _, _, rfl, z5, row.ec, .own _, row.kit _ (mBadQuestion A), ?_⟩
    refine ⟨_, rfl, a, C, _, _, _, rfl, z5, row.ec, .own _, row.kit _ (mNoName A), ?_⟩
    refine ⟨(by show 3 ≤ sizeLine; decide), fun p6 n6 => ?_⟩
    have u6 := same_new (o := .lst [V.bl (decide (C = A.cNotAnAnswer)), V.bl (decide (C = A.cBadQuestion)), V.bl (decide (C = A.cNoName))]) n6
    have y6 := z5.same u6
    refine ⟨q5, p6, _, _, rfl, rfl, u6 _ _ upd_same, upd_same, (by show 18 + 3 ≤ sizeLine; decide), fun q6 m6 => ?_⟩
    have w6 := same_new (o := .lst (((((([V.bl (decide (C = A.cBadText)), V.bl (decide (C = A.cBadKey)), V.bl (decide (C = A.cBadRule)), V.bl (decide (C = A.cClash))] ++ [V.bl (decide (C = A.cBadNodes)), V.bl (decide (C = A.cBadNames)), V.bl (decide (C = A.cOrBelow))]) ++ [V.bl (decide (C = A.cNothingToUndo)), V.bl (decide (C = A.cNothingToRedo)), V.bl (decide (C = A.cBadFact))]) ++ [V.bl (decide (C = A.cBadPattern)), V.bl (decide (C = A.cBadLine)), V.bl (decide (C = A.cLoose))]) ++ [V.bl (decide (C = A.cNothingNew)), V.bl (decide (C = A.cBadNode)), V.bl (decide (C = A.cBadPart))]) ++ [V.bl (decide (C = A.cNoPart)), V.bl (decide (C = A.cBadStrike))]) ++ [V.bl (decide (C = A.cNotAnAnswer)), V.bl (decide (C = A.cBadQuestion)), V.bl (decide (C = A.cNoName))])) m6
    have z6 := y6.same w6
    refine ⟨_, rfl, ?_⟩
    refine ⟨_, rfl, a, C, _, _, _, rfl, z6, row.ec, .own _, row.kit _ (mNotThere A), ?_⟩
    refine ⟨_, rfl, a, C, _, _, _, rfl, z6, row.ec, .own _, row.kit _ (mThereAlready A), ?_⟩
    refine ⟨_, rfl, a, C, _, _, _, rfl, z6, row.ec, .own _, row.kit _ (mBroken A), ?_⟩
    refine ⟨(by show 3 ≤ sizeLine; decide), fun p7 n7 => ?_⟩
    have u7 := same_new (o := .lst [V.bl (decide (C = A.cNotThere)), V.bl (decide (C = A.cThereAlready)), V.bl (decide (C = A.cBroken))]) n7
    have y7 := z6.same u7
    refine ⟨q6, p7, _, _, rfl, rfl, u7 _ _ upd_same, upd_same, (by show 21 + 3 ≤ sizeLine; decide), fun q7 m7 => ?_⟩
    have w7 := same_new (o := .lst ((((((([V.bl (decide (C = A.cBadText)), V.bl (decide (C = A.cBadKey)), V.bl (decide (C = A.cBadRule)), V.bl (decide (C = A.cClash))] ++ [V.bl (decide (C = A.cBadNodes)), V.bl (decide (C = A.cBadNames)), V.bl (decide (C = A.cOrBelow))]) ++ [V.bl (decide (C = A.cNothingToUndo)), V.bl (decide (C = A.cNothingToRedo)), V.bl (decide (C = A.cBadFact))]) ++ [V.bl (decide (C = A.cBadPattern)), V.bl (decide (C = A.cBadLine)), V.bl (decide (C = A.cLoose))]) ++ [V.bl (decide (C = A.cNothingNew)), V.bl (decide (C = A.cBadNode)), V.bl (decide (C = A.cBadPart))]) ++ [V.bl (decide (C = A.cNoPart)), V.bl (decide (C = A.cBadStrike))]) ++ [V.bl (decide (C = A.cNotAnAnswer)), V.bl (decide (C = A.cBadQuestion)), V.bl (decide (C = A.cNoName))]) ++ [V.bl (decide (C = A.cNotThere)), V.bl (decide (C = A.cThereAlready)), V.bl (decide (C = A.cBroken))])) m7
    have z7 := y7.same w7
    have e14 := w7
    have e13 := u7.trans e14
    have e12 := w6.trans e13
    have e11 := u6.trans e12
    have e10 := w5.trans e11
    have e9 := u5.trans e10
    have e8 := w4.trans e9
    have e7 := u4.trans e8
    have e6 := w3.trans e7
    have e5 := u3.trans e6
    have e4 := w2.trans e5
    have e3 := u2.trans e4
    have e2 := w1.trans e3
    have e1 := u1.trans e2
    have e0 := u0.trans e1
    refine ⟨_, rfl, q7, rfl, ⟨_, SqL.of upd_same⟩, fun D nD => ?_⟩
    have uD := same_new (o := .lst []) nD
    have zD : q7 ≠ D := ne_of_none upd_same nD
    refine lc_list (K := K) (a := q7) (xs := (A.all.map fun D => decide (C = D)).map V.bl) (fun i H5 => Same H H5 ∧ H5 q7 = some (.lst ((A.all.map fun D => decide (C = D)).map V.bl)) ∧
      ∃ acc, H5 D = some (.lst acc) ∧ acc.length = (((A.all.map fun D => decide (C = D)).take i).filter id).length) ⟨e0.trans uD, uD _ _ upd_same, [], upd_same, rfl⟩ (fun i H5 _ h5 => SqL.of h5.2.1) ?_ ?_
    · rintro i v H5 hi ⟨s5, sq, acc, hD, hl⟩
      rw [List.getElem?_map] at hi
      cases eb : (A.all.map fun D => decide (C = D))[i]? with
      | none =>
        rw [eb] at hi
        cases hi
      | some bt =>
        rw [eb] at hi
        cases hi
        have few : acc.length < sizeLine := by
          rw [hl]
          refine Nat.lt_of_le_of_lt (List.length_filter_le _ _) ?_
          rw [List.length_take]
          exact Nat.lt_of_le_of_lt (Nat.min_le_right _ _) (by show 24 < sizeLine; decide)
        refine ⟨rfl, _, rfl, bt, rfl, ?_⟩
        rw [List.take_add_one, eb]
        cases bt with
        | true =>
          rw [if_pos rfl]
          refine ⟨_, rfl, acc, hD, few, fun bb o e => ?_, ?_, _, upd_same, ?_⟩
          · have nb : bb ≠ D := ne_of_none (e0 _ _ e) nD
            rw [upd_ne nb]
            exact s5 bb o e
          · rw [upd_ne zD]
            exact sq
          · rw [List.length_append, hl, List.filter_append, List.length_append]
            rfl
        | false =>
          rw [if_neg (by decide)]
          refine ⟨s5, sq, acc, hD, ?_⟩
          rw [hl, List.filter_append, List.length_append]
          rfl
    · rintro H5 ⟨s5, sq, acc, hD, hl⟩
      have h1 : acc.length = 1 := by
        rw [hl]
        have e24 : ((A.all.map fun D => decide (C = D)).map V.bl).length = (A.all.map fun D => decide (C = D)).length := List.length_map _
        rw [e24, List.take_length]
        exact count_one _ T.nd hC
      refine ⟨D, acc, rfl, .inl (SqL.of hD), ?_⟩
      rw [h1]
      exact k _ s5
end
end L2.K02
set_option Elab.async false
set_option linter.all false
set_option maxRecDepth 100000
set_option maxHeartbeats 8000000
/-! The law on errors: its loop. -/
namespace L2.K02
open PySem PySem.Spec PyProof.Rows L2.XVal
open Builtin.Int (intBits)
section
variable {P : Program} {w : World} {K : PySem.W.Frag} {mg : Str → Option Value} {base : Heap} {A : Ads} {R : Addr}
def spLaw (K : PySem.W.Frag) : Sp := fun vs H Q _ => ∃ (a : Addr) (ns : List Int), vs = [.ref a] ∧ SqL K H a (ns.map V.int) ∧ ns.length ≤ 63 ∧
  (∀ z ∈ ns, intBits z ≤ 1048576) ∧ ∀ H', Q (.bl true) H'
theorem scL : FnScope ["_law_script", "_law_cell", "_law_source_here", "_law_one", "_law_two", "_law_made_here", "_law_e"] ["_law_script"] (defScope sLaw) :=
  ⟨rfl, rfl, rfl, by decide +kernel, rfl, by decide +kernel, by decide +kernel⟩
theorem cut_ints {ns : List Int} (hb : ∀ z ∈ ns, intBits z ≤ 1048576) {i : Nat} {v : V} (lo hi : Option Int)
    (h : (cutV (ns.map V.int) lo hi ++ [V.int 0])[i]? = some v) : ∃ z, v = .int z ∧ intBits z ≤ 1048576 := by
  have hm := List.mem_of_getElem? h
  rcases List.mem_append.mp hm with q | q
  · have q2 : v ∈ ns.map V.int := List.mem_of_mem_drop (List.mem_of_mem_take q)
    obtain ⟨z, hz, rfl⟩ := List.mem_map.mp q2
    exact ⟨z, rfl, hb z hz⟩
  · have q2 : v = .int 0 := by simpa using q
    exact ⟨0, q2, Nat.le_trans (small_bits (by decide) (by decide)) (by decide)⟩
theorem ok_law {f fS fD fV fM fK fC : Addr} {fd dS dD dV dM dK dC : FuncData} (F : Fun K "law" "law" sLaw f fd) (T : Tx K mg A R)
    (FS : Fun K "_law_source" "_law_source" sSource fS dS) (bS : Binds K dS ["_law_cell"] []) (gS : mg "_law_source" = some (.ref fS))
    (FD : Fun K "_law_draw" "_law_draw" sDraw fD dD) (bD : Binds K dD ["_law_source_here", "_law_limit"] []) (gD : mg "_law_draw" = some (.ref fD)) (gI : mg "int" = none)
    (FV : Fun K "_law_value" "_law_value" sValue fV dV) (bV : Binds K dV ["_law_source_here"] []) (gV : mg "_law_value" = some (.ref fV))
    (FM : Fun K "_law_made" "_law_made" sMade fM dM) (bM : Binds K dM ["_law_one", "_law_two"] []) (gM : mg "_law_made" = some (.ref fM))
    (FK : Fun K "_law_kept" "_law_kept" sKept fK dK) (bK : Binds K dK ["_law_one", "_law_two"] []) (gK : mg "_law_kept" = some (.ref fK))
    (FC : Fun K "_law_classes" "_law_classes" sClasses fC dC) (bC : Binds K dC ["_law_e"] []) (gC : mg "_law_classes" = some (.ref fC)) :
    FnG P w K mg base CX0 4 f fd ["_law_script"] (spLaw K) := by
  have OS : FnOk P w K mg base CX0 1 fS dS ["_law_cell"] spSource := ok_source FS
  have OV : FnOk P w K mg base CX0 2 fV dV ["_law_source_here"] (spValue K) := ok_value FV FD bD gI gD
  have OM : FnOk P w K mg base CX0 3 fM dM ["_law_one", "_law_two"] (spMade A) := ok_made FM T
  have OK : FnG P w K mg base CX0 3 fK dK ["_law_one", "_law_two"] (spKept K) := ok_kept FK T
  have OC : FnOk P w K mg base CX0 3 fC dC ["_law_e"] (spClasses A) := ok_classes FC T
  refine fnG_ok F scL (fun vs H Q E h => ?_) (fun cdv A' outer s H vs Q E hg hr h => ?_)
  · obtain ⟨a, ns, rfl, _⟩ := h
    rfl
  · obtain ⟨a, ns, rfl, hS, hlen, hbits, k⟩ := h
    have hr1 : Room 1 _ := hr.mono (by decide)
    have hr2 : Room 2 _ := hr.mono (by decide)
    have hgd : (A'.deeper (envOfC "law" (defScope sLaw) s.heap.objs.size f cdv)).guards = some [] := hg
    refine ⟨_, pss_cons (ps_for PassesOwn.never rfl (pi_list (pe_op op_cat (pe_slice sl_list (pv 0) po_none (po_some pe_int)) (pe_lst (pa_cons pe_int pa_nil))))
        (pg_name (i := 1) scL.nd rfl (Or.inl rfl))
      (pss_cons (ps_set (i := 2) scL.nd rfl (Or.inl rfl) (pe_call OS hr1 (by rfl) gS FS.kp bS .nil pass0 (pa_cons (pv 1) pa_nil)))
      (pss_cons (ps_par (i := 3) (j := 4) (by rfl) scL.nd rfl rfl (by decide) rfl rfl
        (pa_cons (pe_call OV hr2 (by rfl) gV FV.kp bV .nil pass0 (pa_cons (pv 2) pa_nil)) (pa_cons (pe_call OV hr2 (by rfl) gV FV.kp bV .nil pass0 (pa_cons (pv 2) pa_nil)) pa_nil)) (by rfl))
      (pss_cons (ps_set (i := 5) scL.nd rfl (Or.inl rfl) (pe_call OM hr (by rfl) gM FM.kp bM .nil pass0 (pa_cons (pv 3) (pa_cons (pv 4) pa_nil))))
      (pss_cons (ps_if (PW.pt (pw_or (pt_cmpR op_ne (pe_callB call_len_seq (by rfl) T.gl (by decide +kernel) (pa_cons (pv 5) pa_nil)) pe_int (nomark _))
          (pw_or1 (pt_not (pt_val (pe_callG OK hgd hr (by rfl) gK FK.kp bK pass0 (pa_cons (pv 3) (pa_cons (pv 4) pa_nil)))))))) (pss_one (ps_ret pe_bl)) pss_nil)
      (pss_one (ps_for PassesOwn.never rfl (pi_list (pv 5)) (pg_name (i := 6) scL.nd rfl (Or.inl rfl))
        (pss_one (ps_if (PW.pt (pw_or (pt_not (pt_val (pe_callB (id := "isinstance") call_xis (by rfl) T.gi (by decide +kernel) (pa_cons (pv 6) (pa_cons (pe_glob (v := .ref R) (u := .ref R) (by rfl) T.gR rfl) pa_nil)))))
          (pw_or (pt_not (pt_val (pe_callB (id := "isinstance") call_xis (by rfl) T.gi (by decide +kernel) (pa_cons (pv 6) (pa_cons (pe_bltn (v := .ty "ValueError") (u := .type "ValueError") (by rfl) T.gV (by decide +kernel) rfl) pa_nil)))))
          (pw_or1 (pt_cmpR op_ne (pe_call OC hr (by rfl) gC FC.kp bC .nil pass0 (pa_cons (pv 6) pa_nil)) pe_int (nomark _)))))) (pss_one (ps_ret pe_bl)) pss_nil)))))))))
      (pss_one (ps_ret pe_bl)), ?_⟩
    -- for cell in script[:4] + [0]
    refine ⟨_, rfl, 4, rfl, a, _, rfl, hS, fun p1 n1 => ⟨(by show 1 ≤ sizeLine; decide), fun p2 n2 => ?_⟩⟩
    have u1 := same_new (o := .lst (cutV (ns.map V.int) none (some 4))) n1
    have u2 := same_new (o := .lst [V.int 0]) n2
    have few : (cutV (ns.map V.int) none (some 4)).length ≤ 63 := by
      refine Nat.le_trans (cutV_length _ _ _) ?_
      rw [List.length_map]
      exact hlen
    refine ⟨p1, p2, _, _, rfl, rfl, u2 _ _ upd_same, upd_same, (by rw [sizeLine_eq]; show _ + 1 ≤ _; omega), fun p3 n3 => ?_⟩
    refine ⟨p3, rfl, ⟨_, SqL.of upd_same⟩, for_list (K := K) (a := p3) (xs := cutV (ns.map V.int) none (some 4) ++ [V.int 0])
      (fun i σ H5 => (∃ v1 v2 v3 v4 v5 v6 : Option V, σ = [some (.ref a), v1, v2, v3, v4, v5, v6]) ∧ H5 p3 = some (.lst (cutV (ns.map V.int) none (some 4) ++ [V.int 0])))
      ⟨⟨none, none, none, none, none, none, rfl⟩, upd_same⟩ (fun i σ H5 _ h5 => SqL.of h5.2) ?_ ?_⟩
    · rintro i v σ H5 hi ⟨⟨v1, v2, v3, v4, v5, v6, rfl⟩, h3⟩
      obtain ⟨c, rfl, hc⟩ := cut_ints hbits none (some 4) hi
      -- source = _law_source(cell)
      refine ⟨_, rfl, c, rfl, fun pS nS => ?_⟩
      have uS := same_new (o := .lst [V.int c, V.int c, V.int 0]) nS
      have zS : p3 ≠ pS := ne_of_none h3 nS
      have h3a := uS _ _ h3
      -- one, two = (_law_value(source), _law_value(source))
      refine ⟨_, rfl, pS, c, 0, rfl, ⟨c, upd_same⟩, by decide, hc, fun x z1 H6 sx src1 keep1 => ?_⟩
      refine ⟨_, rfl, pS, c, 1, rfl, src1, by decide, hc, fun y z2 H7 sy src2 keep2 => ?_⟩
      have h3c := keep2 _ _ (keep1 _ _ h3a zS) zS
      have tx : Shw K H7 x z1 := sx H7 fun b o nb e => keep2 b o e nb
      have ty : Shw K H7 y z2 := sy H7 fun b o _ e => e
      refine ⟨_, _, rfl, ?_⟩
      -- made = _law_made(one, two)
      refine ⟨_, rfl, _, rfl, x, y, rfl, fun H8 pM as s8 hM l24 all => ?_⟩
      have h3d := s8 _ _ h3c
      -- if len(made) != 24 or not _law_kept(one, two)
      refine ⟨_, rfl, pM, _, rfl, .inl (SqL.of hM), ?_⟩
      refine ⟨rfl, _, rfl, ?_⟩
      refine ite2 (fun hne => ?_) (fun _ => ?_)
      · exfalso
        have e24 : ((as.map V.ref).length : Int) = 24 := by
          rw [List.length_map, l24]
          rfl
        rw [e24] at hne
        simp at hne
      · refine ⟨_, rfl, _, rfl, x, y, z1, z2, rfl, tx.same s8, ty.same s8, fun H9 s9 => ⟨true, rfl, iteF ?_⟩⟩
        have hM9 := s9 _ _ hM
        -- for e in made
        refine ⟨_, rfl, pM, rfl, ⟨_, SqL.of hM9⟩, for_list (K := K) (a := pM) (xs := as.map V.ref)
          (fun i σ H10 => (∃ v : Option V, σ = [some (.ref a), some (.int c), some (.ref pS), some x, some y, some (.ref pM), v]) ∧ Same H9 H10)
          ⟨⟨v6, rfl⟩, Same.refl _⟩ (fun i σ H10 _ h10 => h10.2.seq (SqL.of hM9)) ?_ ?_⟩
        · rintro i10 v10 σ H10 hi10 ⟨⟨v, rfl⟩, s10⟩
          rw [List.getElem?_map] at hi10
          cases eb : as[i10]? with
          | none =>
            rw [eb] at hi10
            cases hi10
          | some e =>
            rw [eb] at hi10
            cases hi10
            obtain ⟨C, hC, xe⟩ := all e (List.mem_of_getElem? eb)
            have xe10 := xe.same (s9.trans s10)
            have row := T.row C hC
            refine ⟨_, rfl, e, C, _, _, _, rfl, xe10, row.ec, .own _, row.kR, true, rfl, iteF ?_⟩
            refine ⟨_, rfl, e, C, _, _, _, rfl, xe10, row.ec, .ty _, row.kV, true, rfl, iteF ?_⟩
            refine ⟨_, rfl, e, C, rfl, hC, xe10, fun H11 s11 => ⟨rfl, _, rfl, iteF ?_⟩⟩
            exact ⟨⟨_, rfl⟩, s10.trans s11⟩
        · rintro σ H10 ⟨⟨v, rfl⟩, s10⟩
          exact ⟨⟨_, _, _, _, _, _, rfl⟩, s10 _ _ (s9 _ _ h3d)⟩
    · rintro σ H5 ⟨⟨v1, v2, v3, v4, v5, v6, rfl⟩, h3⟩
      exact k _
end
end L2.K02
set_option Elab.async false
set_option linter.all false
set_option maxRecDepth 100000
set_option maxHeartbeats 8000000
/-! The law on errors: what its top has left, and its end. -/
namespace L2.K02
open PySem PySem.Spec PyProof.Rows L2.XVal
open Builtin.Int (intBits)
/-- the class at C is right below the one at R, which is right below ValueError -/
def MroB (K : PySem.W.Frag) (C R : Addr) : Prop := ∃ cd, PySem.W.clsIn K C = some cd ∧ cd.mro = [.ref C, .ref R, .type "ValueError", .type "Exception", .type "BaseException", .type "object"]
structure ExB (K : PySem.W.Frag) (C R : Addr) : Prop where
  mro : MroB K C R
  kC : PySem.W.keepIn K (.ref C) = true
  sa : PySem.W.findIn K (.ref C) "__setattr__" = some (some (.builtin "object.__setattr__"))
  ga : PySem.W.findIn K (.ref C) "__getattribute__" = some (some (.builtin "BaseException.__getattribute__"))
  gg : PySem.W.findIn K (.ref C) "__getattr__" = some none
  su : PySem.W.subIn K (.ref C) (.type "BaseException") = some true
  sv : PySem.W.subIn K (.ref C) (.type "ValueError") = some true
  hd : PySem.W.hasDictIn K C = true
  cl : PySem.W.findIn K (.ref C) "__class__" = some (some (.builtin "object.__class__"))
  mo : PySem.W.mroIn K C (.type "object") = some true
  ty : PySem.W.typeIn K (.ref C) = some (.type "type")
def Oex (K : PySem.W.Frag) (C : Addr) : Prop := ∃ nm q N bs bm sn sub ab col dd k0 k1 k2 k3 k5, K.lookup C = some (excClassObj nm q C N bs bm true sn sub ab col dd k0 k1 k2 k3 k5 "ValueError.__new__") ∧ PySem.HandSPX.refsVE bm = true
theorem sub_refs {K : PySem.W.Frag} {C R : Addr} (m : MroB K C R) (D : Addr) : PySem.W.subIn K (.ref C) (.ref D) = some (decide (C = D) || decide (R = D)) := by
  obtain ⟨cd, h, e⟩ := m
  show PySem.W.mroIn K C (.ref D) = _
  unfold PySem.W.mroIn
  rw [h, Option.bind_some, e]
  by_cases h1 : C = D
  · subst h1
    simp
  · by_cases h2 : R = D
    · subst h2
      simp
    · have h1' : ¬ D = C := fun z => h1 z.symm
      have h2' : ¬ D = R := fun z => h2 z.symm
      simp [h1, h2, h1', h2']
theorem kit_refs {K : PySem.W.Frag} {C R D : Addr} (m : MroB K C R) (cD : (PySem.W.clsIn K D).isSome = true) (tD : PySem.W.typeIn K (.ref D) = some (.type "type")) :
    PySem.W.kitOne K (.ref C) (.ref D) = some (decide (C = D) || decide (R = D)) := by
  unfold PySem.W.kitOne
  by_cases h1 : C = D
  · subst h1
    simp
  · have e1 : (Value.ref C == Value.ref D) = false := by
      refine beq_eq_false_iff_ne.mpr fun z => h1 ?_
      cases z
      rfl
    rw [e1, if_neg Bool.false_ne_true]
    show (if ((PySem.W.clsIn K D).isSome && PySem.W.typeIn K (.ref D) == some (.type "type")) = true then PySem.W.subIn K (.ref C) (.ref D) else none) = _
    rw [cD, tD, if_pos (by decide +kernel)]
    exact sub_refs m D
theorem ExB.isSome {K : PySem.W.Frag} {C R : Addr} (e : ExB K C R) : (PySem.W.clsIn K C).isSome = true := by
  obtain ⟨cd, h, _⟩ := e.mro
  rw [h]
  rfl
theorem row_of {K : PySem.W.Frag} {R : Addr} {Cs : List Addr} (all : ∀ C ∈ Cs, ExB K C R) (nd : (R :: Cs).Nodup)
    (cR : (PySem.W.clsIn K R).isSome = true) (tR : PySem.W.typeIn K (.ref R) = some (.type "type"))
    (hn : PySem.W.specialIn K (.builtin "object.__class__") "__get__" = some (some (.builtin "getset_descriptor.__get__")))
    (ht : PySem.W.takesIn K (.builtin "object.__class__") = some true) (C : Addr) (hC : C ∈ Cs) : Row K R Cs C := by
  have e := all C hC
  have nR : ∀ D ∈ Cs, ¬ R = D := fun D hD z => (List.nodup_cons.mp nd).1 (by rw [z]; exact hD)
  refine ⟨⟨e.ga, e.gg, e.su, e.hd, e.cl, hn, ht, e.mo⟩, fun D hD => ?_, ?_, ?_⟩
  · rw [kit_refs e.mro (all D hD).isSome (all D hD).ty]
    simp [nR D hD]
  · rw [kit_refs e.mro cR tR]
    simp
  · show (if (Value.ref C == Value.type "ValueError") = true then some true else PySem.W.kitCls K (.ref C) (.type "ValueError")) = _
    rw [if_neg (by simp)]
    show (if PySem.W.kitMeta "ValueError" = true then PySem.W.subIn K (.ref C) (.type "ValueError") else none) = _
    rw [if_pos (by decide +kernel)]
    exact e.sv
theorem cl0_of {K : PySem.W.Frag} {mg : Str → Option Value} {name : Str} {C R : Addr} (g : mg name = some (.ref C)) (e : ExB K C R)
    (x : PySem.W.excIn K C veB "ValueError.__new__" = true) : Cl0 K mg name C := ⟨g, e.kC, x⟩
theorem cln_of {K : PySem.W.Frag} {mg : Str → Option Value} {name : Str} {C R fI : Addr} (g : mg name = some (.ref C)) (e : ExB K C R) (o : Oex K C)
    (i : PySem.W.findIn K (.ref C) "__init__" = some (some (.ref fI))) (t : PySem.W.typeIn K (.ref fI) = some (.type "function")) : ClN K mg name C fI :=
  ⟨g, ⟨o, e.sa, e.su, e.ty, e.kC⟩, i, t, ⟨e.ga, e.gg, e.su, e.hd⟩⟩

theorem cl_BadFact {K : PySem.W.Frag} {mg : Str → Option Value} {C R fI : Addr} {fd : FuncData} (g : mg "BadFact" = some (.ref C)) (e : ExB K C R) (o : Oex K C)
    (i : PySem.W.findIn K (.ref C) "__init__" = some (some (.ref fI))) (t : PySem.W.typeIn K (.ref fI) = some (.type "function")) (no : PySem.W.findIn K (.ref C) "value" = some none)
    (F : Fun K "__init__" "BadFact.__init__" (sIni 2) fI fd) : Cl1 K mg "BadFact" C fI fd "value" :=
  ⟨cln_of g e o i t, no, fun P w base => ok_ini1 F ⟨rfl, rfl, rfl, by decide +kernel, rfl, by decide +kernel, by decide +kernel⟩ rfl rfl rfl (by decide +kernel) (by decide +kernel) (cln_of g e o i t).T no,
    kbn_of F relL fun _ _ _ _ _ _ us ws l1 l2 => match us, ws, l1, l2 with | [_, _], [], _, _ => rfl,
    kbn_of F relA fun _ _ _ _ _ _ us ws l1 l2 => match us, ws, l1, l2 with | [_], [_], _, _ => rfl⟩
theorem cl_BadPattern {K : PySem.W.Frag} {mg : Str → Option Value} {C R fI : Addr} {fd : FuncData} (g : mg "BadPattern" = some (.ref C)) (e : ExB K C R) (o : Oex K C)
    (i : PySem.W.findIn K (.ref C) "__init__" = some (some (.ref fI))) (t : PySem.W.typeIn K (.ref fI) = some (.type "function")) (no : PySem.W.findIn K (.ref C) "value" = some none)
    (F : Fun K "__init__" "BadPattern.__init__" (sIni 3) fI fd) : Cl1 K mg "BadPattern" C fI fd "value" :=
  ⟨cln_of g e o i t, no, fun P w base => ok_ini1 F ⟨rfl, rfl, rfl, by decide +kernel, rfl, by decide +kernel, by decide +kernel⟩ rfl rfl rfl (by decide +kernel) (by decide +kernel) (cln_of g e o i t).T no,
    kbn_of F relL fun _ _ _ _ _ _ us ws l1 l2 => match us, ws, l1, l2 with | [_, _], [], _, _ => rfl,
    kbn_of F relA fun _ _ _ _ _ _ us ws l1 l2 => match us, ws, l1, l2 with | [_], [_], _, _ => rfl⟩
theorem cl_BadLine {K : PySem.W.Frag} {mg : Str → Option Value} {C R fI : Addr} {fd : FuncData} (g : mg "BadLine" = some (.ref C)) (e : ExB K C R) (o : Oex K C)
    (i : PySem.W.findIn K (.ref C) "__init__" = some (some (.ref fI))) (t : PySem.W.typeIn K (.ref fI) = some (.type "function")) (no : PySem.W.findIn K (.ref C) "line" = some none)
    (F : Fun K "__init__" "BadLine.__init__" (sIni 4) fI fd) : Cl1 K mg "BadLine" C fI fd "line" :=
  ⟨cln_of g e o i t, no, fun P w base => ok_ini1 F ⟨rfl, rfl, rfl, by decide +kernel, rfl, by decide +kernel, by decide +kernel⟩ rfl rfl rfl (by decide +kernel) (by decide +kernel) (cln_of g e o i t).T no,
    kbn_of F relL fun _ _ _ _ _ _ us ws l1 l2 => match us, ws, l1, l2 with | [_, _], [], _, _ => rfl,
    kbn_of F relA fun _ _ _ _ _ _ us ws l1 l2 => match us, ws, l1, l2 with | [_], [_], _, _ => rfl⟩
theorem cl_Loose {K : PySem.W.Frag} {mg : Str → Option Value} {C R fI : Addr} {fd : FuncData} (g : mg "Loose" = some (.ref C)) (e : ExB K C R) (o : Oex K C)
    (i : PySem.W.findIn K (.ref C) "__init__" = some (some (.ref fI))) (t : PySem.W.typeIn K (.ref fI) = some (.type "function")) (no : PySem.W.findIn K (.ref C) "variable" = some none)
    (F : Fun K "__init__" "Loose.__init__" (sIni 11) fI fd) : Cl1 K mg "Loose" C fI fd "variable" :=
  ⟨cln_of g e o i t, no, fun P w base => ok_ini1 F ⟨rfl, rfl, rfl, by decide +kernel, rfl, by decide +kernel, by decide +kernel⟩ rfl rfl rfl (by decide +kernel) (by decide +kernel) (cln_of g e o i t).T no,
    kbn_of F relL fun _ _ _ _ _ _ us ws l1 l2 => match us, ws, l1, l2 with | [_, _], [], _, _ => rfl,
    kbn_of F relA fun _ _ _ _ _ _ us ws l1 l2 => match us, ws, l1, l2 with | [_], [_], _, _ => rfl⟩
theorem cl_NothingNew {K : PySem.W.Frag} {mg : Str → Option Value} {C R fI : Addr} {fd : FuncData} (g : mg "NothingNew" = some (.ref C)) (e : ExB K C R) (o : Oex K C)
    (i : PySem.W.findIn K (.ref C) "__init__" = some (some (.ref fI))) (t : PySem.W.typeIn K (.ref fI) = some (.type "function")) (no : PySem.W.findIn K (.ref C) "index" = some none)
    (F : Fun K "__init__" "NothingNew.__init__" (sIni 12) fI fd) : Cl1 K mg "NothingNew" C fI fd "index" :=
  ⟨cln_of g e o i t, no, fun P w base => ok_ini1 F ⟨rfl, rfl, rfl, by decide +kernel, rfl, by decide +kernel, by decide +kernel⟩ rfl rfl rfl (by decide +kernel) (by decide +kernel) (cln_of g e o i t).T no,
    kbn_of F relL fun _ _ _ _ _ _ us ws l1 l2 => match us, ws, l1, l2 with | [_, _], [], _, _ => rfl,
    kbn_of F relA fun _ _ _ _ _ _ us ws l1 l2 => match us, ws, l1, l2 with | [_], [_], _, _ => rfl⟩
theorem cl_BadNode {K : PySem.W.Frag} {mg : Str → Option Value} {C R fI : Addr} {fd : FuncData} (g : mg "BadNode" = some (.ref C)) (e : ExB K C R) (o : Oex K C)
    (i : PySem.W.findIn K (.ref C) "__init__" = some (some (.ref fI))) (t : PySem.W.typeIn K (.ref fI) = some (.type "function")) (no : PySem.W.findIn K (.ref C) "index" = some none)
    (F : Fun K "__init__" "BadNode.__init__" (sIni 13) fI fd) : Cl1 K mg "BadNode" C fI fd "index" :=
  ⟨cln_of g e o i t, no, fun P w base => ok_ini1 F ⟨rfl, rfl, rfl, by decide +kernel, rfl, by decide +kernel, by decide +kernel⟩ rfl rfl rfl (by decide +kernel) (by decide +kernel) (cln_of g e o i t).T no,
    kbn_of F relL fun _ _ _ _ _ _ us ws l1 l2 => match us, ws, l1, l2 with | [_, _], [], _, _ => rfl,
    kbn_of F relA fun _ _ _ _ _ _ us ws l1 l2 => match us, ws, l1, l2 with | [_], [_], _, _ => rfl⟩
theorem cl_BadPart {K : PySem.W.Frag} {mg : Str → Option Value} {C R fI : Addr} {fd : FuncData} (g : mg "BadPart" = some (.ref C)) (e : ExB K C R) (o : Oex K C)
    (i : PySem.W.findIn K (.ref C) "__init__" = some (some (.ref fI))) (t : PySem.W.typeIn K (.ref fI) = some (.type "function")) (no : PySem.W.findIn K (.ref C) "part" = some none)
    (F : Fun K "__init__" "BadPart.__init__" (sIni 14) fI fd) : Cl1 K mg "BadPart" C fI fd "part" :=
  ⟨cln_of g e o i t, no, fun P w base => ok_ini1 F ⟨rfl, rfl, rfl, by decide +kernel, rfl, by decide +kernel, by decide +kernel⟩ rfl rfl rfl (by decide +kernel) (by decide +kernel) (cln_of g e o i t).T no,
    kbn_of F relL fun _ _ _ _ _ _ us ws l1 l2 => match us, ws, l1, l2 with | [_, _], [], _, _ => rfl,
    kbn_of F relA fun _ _ _ _ _ _ us ws l1 l2 => match us, ws, l1, l2 with | [_], [_], _, _ => rfl⟩
theorem cl_NoPart {K : PySem.W.Frag} {mg : Str → Option Value} {C R fI : Addr} {fd : FuncData} (g : mg "NoPart" = some (.ref C)) (e : ExB K C R) (o : Oex K C)
    (i : PySem.W.findIn K (.ref C) "__init__" = some (some (.ref fI))) (t : PySem.W.typeIn K (.ref fI) = some (.type "function")) (no : PySem.W.findIn K (.ref C) "known" = some none)
    (F : Fun K "__init__" "NoPart.__init__" (sIni 15) fI fd) : Cl1 K mg "NoPart" C fI fd "known" :=
  ⟨cln_of g e o i t, no, fun P w base => ok_ini1 F ⟨rfl, rfl, rfl, by decide +kernel, rfl, by decide +kernel, by decide +kernel⟩ rfl rfl rfl (by decide +kernel) (by decide +kernel) (cln_of g e o i t).T no,
    kbn_of F relL fun _ _ _ _ _ _ us ws l1 l2 => match us, ws, l1, l2 with | [_, _], [], _, _ => rfl,
    kbn_of F relA fun _ _ _ _ _ _ us ws l1 l2 => match us, ws, l1, l2 with | [_], [_], _, _ => rfl⟩
theorem cl_BadStrike {K : PySem.W.Frag} {mg : Str → Option Value} {C R fI : Addr} {fd : FuncData} (g : mg "BadStrike" = some (.ref C)) (e : ExB K C R) (o : Oex K C)
    (i : PySem.W.findIn K (.ref C) "__init__" = some (some (.ref fI))) (t : PySem.W.typeIn K (.ref fI) = some (.type "function")) (no : PySem.W.findIn K (.ref C) "value" = some none)
    (F : Fun K "__init__" "BadStrike.__init__" (sIni 18) fI fd) : Cl1 K mg "BadStrike" C fI fd "value" :=
  ⟨cln_of g e o i t, no, fun P w base => ok_ini1 F ⟨rfl, rfl, rfl, by decide +kernel, rfl, by decide +kernel, by decide +kernel⟩ rfl rfl rfl (by decide +kernel) (by decide +kernel) (cln_of g e o i t).T no,
    kbn_of F relL fun _ _ _ _ _ _ us ws l1 l2 => match us, ws, l1, l2 with | [_, _], [], _, _ => rfl,
    kbn_of F relA fun _ _ _ _ _ _ us ws l1 l2 => match us, ws, l1, l2 with | [_], [_], _, _ => rfl⟩
theorem cl_NotAnAnswer {K : PySem.W.Frag} {mg : Str → Option Value} {C R fI : Addr} {fd : FuncData} (g : mg "NotAnAnswer" = some (.ref C)) (e : ExB K C R) (o : Oex K C)
    (i : PySem.W.findIn K (.ref C) "__init__" = some (some (.ref fI))) (t : PySem.W.typeIn K (.ref fI) = some (.type "function")) (no : PySem.W.findIn K (.ref C) "known" = some none)
    (F : Fun K "__init__" "NotAnAnswer.__init__" (sIni 19) fI fd) : Cl1 K mg "NotAnAnswer" C fI fd "known" :=
  ⟨cln_of g e o i t, no, fun P w base => ok_ini1 F ⟨rfl, rfl, rfl, by decide +kernel, rfl, by decide +kernel, by decide +kernel⟩ rfl rfl rfl (by decide +kernel) (by decide +kernel) (cln_of g e o i t).T no,
    kbn_of F relL fun _ _ _ _ _ _ us ws l1 l2 => match us, ws, l1, l2 with | [_, _], [], _, _ => rfl,
    kbn_of F relA fun _ _ _ _ _ _ us ws l1 l2 => match us, ws, l1, l2 with | [_], [_], _, _ => rfl⟩
theorem cl_BadQuestion {K : PySem.W.Frag} {mg : Str → Option Value} {C R fI : Addr} {fd : FuncData} (g : mg "BadQuestion" = some (.ref C)) (e : ExB K C R) (o : Oex K C)
    (i : PySem.W.findIn K (.ref C) "__init__" = some (some (.ref fI))) (t : PySem.W.typeIn K (.ref fI) = some (.type "function")) (no : PySem.W.findIn K (.ref C) "value" = some none)
    (F : Fun K "__init__" "BadQuestion.__init__" (sIni 20) fI fd) : Cl1 K mg "BadQuestion" C fI fd "value" :=
  ⟨cln_of g e o i t, no, fun P w base => ok_ini1 F ⟨rfl, rfl, rfl, by decide +kernel, rfl, by decide +kernel, by decide +kernel⟩ rfl rfl rfl (by decide +kernel) (by decide +kernel) (cln_of g e o i t).T no,
    kbn_of F relL fun _ _ _ _ _ _ us ws l1 l2 => match us, ws, l1, l2 with | [_, _], [], _, _ => rfl,
    kbn_of F relA fun _ _ _ _ _ _ us ws l1 l2 => match us, ws, l1, l2 with | [_], [_], _, _ => rfl⟩
theorem cl_NoName {K : PySem.W.Frag} {mg : Str → Option Value} {C R fI : Addr} {fd : FuncData} (g : mg "NoName" = some (.ref C)) (e : ExB K C R) (o : Oex K C)
    (i : PySem.W.findIn K (.ref C) "__init__" = some (some (.ref fI))) (t : PySem.W.typeIn K (.ref fI) = some (.type "function")) (no : PySem.W.findIn K (.ref C) "value" = some none)
    (F : Fun K "__init__" "NoName.__init__" (sIni 21) fI fd) : Cl1 K mg "NoName" C fI fd "value" :=
  ⟨cln_of g e o i t, no, fun P w base => ok_ini1 F ⟨rfl, rfl, rfl, by decide +kernel, rfl, by decide +kernel, by decide +kernel⟩ rfl rfl rfl (by decide +kernel) (by decide +kernel) (cln_of g e o i t).T no,
    kbn_of F relL fun _ _ _ _ _ _ us ws l1 l2 => match us, ws, l1, l2 with | [_, _], [], _, _ => rfl,
    kbn_of F relA fun _ _ _ _ _ _ us ws l1 l2 => match us, ws, l1, l2 with | [_], [_], _, _ => rfl⟩
theorem cl_NotThere {K : PySem.W.Frag} {mg : Str → Option Value} {C R fI : Addr} {fd : FuncData} (g : mg "NotThere" = some (.ref C)) (e : ExB K C R) (o : Oex K C)
    (i : PySem.W.findIn K (.ref C) "__init__" = some (some (.ref fI))) (t : PySem.W.typeIn K (.ref fI) = some (.type "function")) (no : PySem.W.findIn K (.ref C) "fact" = some none)
    (F : Fun K "__init__" "NotThere.__init__" (sIni 22) fI fd) : Cl1 K mg "NotThere" C fI fd "fact" :=
  ⟨cln_of g e o i t, no, fun P w base => ok_ini1 F ⟨rfl, rfl, rfl, by decide +kernel, rfl, by decide +kernel, by decide +kernel⟩ rfl rfl rfl (by decide +kernel) (by decide +kernel) (cln_of g e o i t).T no,
    kbn_of F relL fun _ _ _ _ _ _ us ws l1 l2 => match us, ws, l1, l2 with | [_, _], [], _, _ => rfl,
    kbn_of F relA fun _ _ _ _ _ _ us ws l1 l2 => match us, ws, l1, l2 with | [_], [_], _, _ => rfl⟩
theorem cl_ThereAlready {K : PySem.W.Frag} {mg : Str → Option Value} {C R fI : Addr} {fd : FuncData} (g : mg "ThereAlready" = some (.ref C)) (e : ExB K C R) (o : Oex K C)
    (i : PySem.W.findIn K (.ref C) "__init__" = some (some (.ref fI))) (t : PySem.W.typeIn K (.ref fI) = some (.type "function")) (no : PySem.W.findIn K (.ref C) "fact" = some none)
    (F : Fun K "__init__" "ThereAlready.__init__" (sIni 23) fI fd) : Cl1 K mg "ThereAlready" C fI fd "fact" :=
  ⟨cln_of g e o i t, no, fun P w base => ok_ini1 F ⟨rfl, rfl, rfl, by decide +kernel, rfl, by decide +kernel, by decide +kernel⟩ rfl rfl rfl (by decide +kernel) (by decide +kernel) (cln_of g e o i t).T no,
    kbn_of F relL fun _ _ _ _ _ _ us ws l1 l2 => match us, ws, l1, l2 with | [_, _], [], _, _ => rfl,
    kbn_of F relA fun _ _ _ _ _ _ us ws l1 l2 => match us, ws, l1, l2 with | [_], [_], _, _ => rfl⟩
theorem cl_Broken {K : PySem.W.Frag} {mg : Str → Option Value} {C R fI : Addr} {fd : FuncData} (g : mg "Broken" = some (.ref C)) (e : ExB K C R) (o : Oex K C)
    (i : PySem.W.findIn K (.ref C) "__init__" = some (some (.ref fI))) (t : PySem.W.typeIn K (.ref fI) = some (.type "function")) (no : PySem.W.findIn K (.ref C) "index" = some none)
    (no2 : PySem.W.findIn K (.ref C) "shown" = some none)
    (F : Fun K "__init__" "Broken.__init__" (sIni 9) fI fd) : Cl2 K mg "Broken" C fI fd "index" "shown" :=
  ⟨cln_of g e o i t, no, no2, fun P w base => ok_ini2 F ⟨rfl, rfl, rfl, by decide +kernel, rfl, by decide +kernel, by decide +kernel⟩ rfl rfl rfl rfl (by decide +kernel) (by decide +kernel) (by decide +kernel) (by decide +kernel) (cln_of g e o i t).T no no2,
    kbn_of F relL fun _ _ _ _ _ _ us ws l1 l2 => match us, ws, l1, l2 with | [_, _, _], [], _, _ => rfl,
    kbn_of F relA fun _ _ _ _ _ _ us ws l1 l2 => match us, ws, l1, l2 with | [_], [_, _], _, _ => rfl,
    kbn_of F relT fun _ _ _ _ _ _ us ws l1 l2 => match us, ws, l1, l2 with | [_], [_, _], _, _ => rfl⟩
end L2.K02
set_option Elab.async false
set_option linter.all false
set_option maxRecDepth 100000
set_option maxHeartbeats 0
/-! The law on errors: its end. -/
namespace L2.K02
open PySem PySem.Spec PyProof.Rows L2.XVal
open Builtin.Int (intBits)
theorem all_mk {P : Program} {w : World} {K : PySem.W.Frag} {h : Heap} {mg : Str → Option Value} {fa R cBadText cBadKey cBadRule cClash cBadNodes cBadNames cOrBelow cNothingToUndo cNothingToRedo cBadFact cBadPattern cBadLine cLoose cNothingNew cBadNode cBadPart cNoPart cBadStrike cNotAnAnswer cBadQuestion cNoName cNotThere cThereAlready cBroken fBadFact fBadPattern fBadLine fLoose fNothingNew fBadNode fBadPart fNoPart fBadStrike fNotAnAnswer fBadQuestion fNoName fNotThere fThereAlready fBroken gS gD gV gM gK gC gL : Addr}
    (X : K.In h) (G : h.Ns mainGlobals mg) (hfa : mg "law" = some (.ref fa))
    (aR : PySem.W.nsIn K mainGlobals "RowsError" = some (some (.ref R)))
    (iR : PySem.W.isClsIn K R = true)
    (tR : PySem.W.typeIn K (.ref R) = some (.type "type"))
    (hn : PySem.W.specialIn K (.builtin "object.__class__") "__get__" = some (some (.builtin "getset_descriptor.__get__")))
    (ht : PySem.W.takesIn K (.builtin "object.__class__") = some true)
    (aBadText : PySem.W.nsIn K mainGlobals "BadText" = some (some (.ref cBadText)))
    (eBadText : ExB K cBadText R)
    (xBadText : PySem.W.excIn K cBadText veB "ValueError.__new__" = true)
    (aBadKey : PySem.W.nsIn K mainGlobals "BadKey" = some (some (.ref cBadKey)))
    (eBadKey : ExB K cBadKey R)
    (xBadKey : PySem.W.excIn K cBadKey veB "ValueError.__new__" = true)
    (aBadRule : PySem.W.nsIn K mainGlobals "BadRule" = some (some (.ref cBadRule)))
    (eBadRule : ExB K cBadRule R)
    (xBadRule : PySem.W.excIn K cBadRule veB "ValueError.__new__" = true)
    (aClash : PySem.W.nsIn K mainGlobals "Clash" = some (some (.ref cClash)))
    (eClash : ExB K cClash R)
    (xClash : PySem.W.excIn K cClash veB "ValueError.__new__" = true)
    (aBadNodes : PySem.W.nsIn K mainGlobals "BadNodes" = some (some (.ref cBadNodes)))
    (eBadNodes : ExB K cBadNodes R)
    (xBadNodes : PySem.W.excIn K cBadNodes veB "ValueError.__new__" = true)
    (aBadNames : PySem.W.nsIn K mainGlobals "BadNames" = some (some (.ref cBadNames)))
    (eBadNames : ExB K cBadNames R)
    (xBadNames : PySem.W.excIn K cBadNames veB "ValueError.__new__" = true)
    (aOrBelow : PySem.W.nsIn K mainGlobals "OrBelow" = some (some (.ref cOrBelow)))
    (eOrBelow : ExB K cOrBelow R)
    (xOrBelow : PySem.W.excIn K cOrBelow veB "ValueError.__new__" = true)
    (aNothingToUndo : PySem.W.nsIn K mainGlobals "NothingToUndo" = some (some (.ref cNothingToUndo)))
    (eNothingToUndo : ExB K cNothingToUndo R)
    (xNothingToUndo : PySem.W.excIn K cNothingToUndo veB "ValueError.__new__" = true)
    (aNothingToRedo : PySem.W.nsIn K mainGlobals "NothingToRedo" = some (some (.ref cNothingToRedo)))
    (eNothingToRedo : ExB K cNothingToRedo R)
    (xNothingToRedo : PySem.W.excIn K cNothingToRedo veB "ValueError.__new__" = true)
    (aBadFact : PySem.W.nsIn K mainGlobals "BadFact" = some (some (.ref cBadFact)))
    (eBadFact : ExB K cBadFact R)
    (oBadFact : Oex K cBadFact)
    (iBadFact : PySem.W.findIn K (.ref cBadFact) "__init__" = some (some (.ref fBadFact)))
    (tBadFact : PySem.W.typeIn K (.ref fBadFact) = some (.type "function"))
    (nBadFact : PySem.W.findIn K (.ref cBadFact) "value" = some none)
    (FBadFact : ∃ fd, Fun K "__init__" "BadFact.__init__" (sIni 2) fBadFact fd)
    (aBadPattern : PySem.W.nsIn K mainGlobals "BadPattern" = some (some (.ref cBadPattern)))
    (eBadPattern : ExB K cBadPattern R)
    (oBadPattern : Oex K cBadPattern)
    (iBadPattern : PySem.W.findIn K (.ref cBadPattern) "__init__" = some (some (.ref fBadPattern)))
    (tBadPattern : PySem.W.typeIn K (.ref fBadPattern) = some (.type "function"))
    (nBadPattern : PySem.W.findIn K (.ref cBadPattern) "value" = some none)
    (FBadPattern : ∃ fd, Fun K "__init__" "BadPattern.__init__" (sIni 3) fBadPattern fd)
    (aBadLine : PySem.W.nsIn K mainGlobals "BadLine" = some (some (.ref cBadLine)))
    (eBadLine : ExB K cBadLine R)
    (oBadLine : Oex K cBadLine)
    (iBadLine : PySem.W.findIn K (.ref cBadLine) "__init__" = some (some (.ref fBadLine)))
    (tBadLine : PySem.W.typeIn K (.ref fBadLine) = some (.type "function"))
    (nBadLine : PySem.W.findIn K (.ref cBadLine) "line" = some none)
    (FBadLine : ∃ fd, Fun K "__init__" "BadLine.__init__" (sIni 4) fBadLine fd)
    (aLoose : PySem.W.nsIn K mainGlobals "Loose" = some (some (.ref cLoose)))
    (eLoose : ExB K cLoose R)
    (oLoose : Oex K cLoose)
    (iLoose : PySem.W.findIn K (.ref cLoose) "__init__" = some (some (.ref fLoose)))
    (tLoose : PySem.W.typeIn K (.ref fLoose) = some (.type "function"))
    (nLoose : PySem.W.findIn K (.ref cLoose) "variable" = some none)
    (FLoose : ∃ fd, Fun K "__init__" "Loose.__init__" (sIni 11) fLoose fd)
    (aNothingNew : PySem.W.nsIn K mainGlobals "NothingNew" = some (some (.ref cNothingNew)))
    (eNothingNew : ExB K cNothingNew R)
    (oNothingNew : Oex K cNothingNew)
    (iNothingNew : PySem.W.findIn K (.ref cNothingNew) "__init__" = some (some (.ref fNothingNew)))
    (tNothingNew : PySem.W.typeIn K (.ref fNothingNew) = some (.type "function"))
    (nNothingNew : PySem.W.findIn K (.ref cNothingNew) "index" = some none)
    (FNothingNew : ∃ fd, Fun K "__init__" "NothingNew.__init__" (sIni 12) fNothingNew fd)
    (aBadNode : PySem.W.nsIn K mainGlobals "BadNode" = some (some (.ref cBadNode)))
    (eBadNode : ExB K cBadNode R)
    (oBadNode : Oex K cBadNode)
    (iBadNode : PySem.W.findIn K (.ref cBadNode) "__init__" = some (some (.ref fBadNode)))
    (tBadNode : PySem.W.typeIn K (.ref fBadNode) = some (.type "function"))
    (nBadNode : PySem.W.findIn K (.ref cBadNode) "index" = some none)
    (FBadNode : ∃ fd, Fun K "__init__" "BadNode.__init__" (sIni 13) fBadNode fd)
    (aBadPart : PySem.W.nsIn K mainGlobals "BadPart" = some (some (.ref cBadPart)))
    (eBadPart : ExB K cBadPart R)
    (oBadPart : Oex K cBadPart)
    (iBadPart : PySem.W.findIn K (.ref cBadPart) "__init__" = some (some (.ref fBadPart)))
    (tBadPart : PySem.W.typeIn K (.ref fBadPart) = some (.type "function"))
    (nBadPart : PySem.W.findIn K (.ref cBadPart) "part" = some none)
    (FBadPart : ∃ fd, Fun K "__init__" "BadPart.__init__" (sIni 14) fBadPart fd)
    (aNoPart : PySem.W.nsIn K mainGlobals "NoPart" = some (some (.ref cNoPart)))
    (eNoPart : ExB K cNoPart R)
    (oNoPart : Oex K cNoPart)
    (iNoPart : PySem.W.findIn K (.ref cNoPart) "__init__" = some (some (.ref fNoPart)))
    (tNoPart : PySem.W.typeIn K (.ref fNoPart) = some (.type "function"))
    (nNoPart : PySem.W.findIn K (.ref cNoPart) "known" = some none)
    (FNoPart : ∃ fd, Fun K "__init__" "NoPart.__init__" (sIni 15) fNoPart fd)
    (aBadStrike : PySem.W.nsIn K mainGlobals "BadStrike" = some (some (.ref cBadStrike)))
    (eBadStrike : ExB K cBadStrike R)
    (oBadStrike : Oex K cBadStrike)
    (iBadStrike : PySem.W.findIn K (.ref cBadStrike) "__init__" = some (some (.ref fBadStrike)))
    (tBadStrike : PySem.W.typeIn K (.ref fBadStrike) = some (.type "function"))
    (nBadStrike : PySem.W.findIn K (.ref cBadStrike) "value" = some none)
    (FBadStrike : ∃ fd, Fun K "__init__" "BadStrike.__init__" (sIni 18) fBadStrike fd)
    (aNotAnAnswer : PySem.W.nsIn K mainGlobals "NotAnAnswer" = some (some (.ref cNotAnAnswer)))
    (eNotAnAnswer : ExB K cNotAnAnswer R)
    (oNotAnAnswer : Oex K cNotAnAnswer)
    (iNotAnAnswer : PySem.W.findIn K (.ref cNotAnAnswer) "__init__" = some (some (.ref fNotAnAnswer)))
    (tNotAnAnswer : PySem.W.typeIn K (.ref fNotAnAnswer) = some (.type "function"))
    (nNotAnAnswer : PySem.W.findIn K (.ref cNotAnAnswer) "known" = some none)
    (FNotAnAnswer : ∃ fd, Fun K "__init__" "NotAnAnswer.__init__" (sIni 19) fNotAnAnswer fd)
    (aBadQuestion : PySem.W.nsIn K mainGlobals "BadQuestion" = some (some (.ref cBadQuestion)))
    (eBadQuestion : ExB K cBadQuestion R)
    (oBadQuestion : Oex K cBadQuestion)
    (iBadQuestion : PySem.W.findIn K (.ref cBadQuestion) "__init__" = some (some (.ref fBadQuestion)))
    (tBadQuestion : PySem.W.typeIn K (.ref fBadQuestion) = some (.type "function"))
    (nBadQuestion : PySem.W.findIn K (.ref cBadQuestion) "value" = some none)
    (FBadQuestion : ∃ fd, Fun K "__init__" "BadQuestion.__init__" (sIni 20) fBadQuestion fd)
    (aNoName : PySem.W.nsIn K mainGlobals "NoName" = some (some (.ref cNoName)))
    (eNoName : ExB K cNoName R)
    (oNoName : Oex K cNoName)
    (iNoName : PySem.W.findIn K (.ref cNoName) "__init__" = some (some (.ref fNoName)))
    (tNoName : PySem.W.typeIn K (.ref fNoName) = some (.type "function"))
    (nNoName : PySem.W.findIn K (.ref cNoName) "value" = some none)
    (FNoName : ∃ fd, Fun K "__init__" "NoName.__init__" (sIni 21) fNoName fd)
    (aNotThere : PySem.W.nsIn K mainGlobals "NotThere" = some (some (.ref cNotThere)))
    (eNotThere : ExB K cNotThere R)
    (oNotThere : Oex K cNotThere)
    (iNotThere : PySem.W.findIn K (.ref cNotThere) "__init__" = some (some (.ref fNotThere)))
    (tNotThere : PySem.W.typeIn K (.ref fNotThere) = some (.type "function"))
    (nNotThere : PySem.W.findIn K (.ref cNotThere) "fact" = some none)
    (FNotThere : ∃ fd, Fun K "__init__" "NotThere.__init__" (sIni 22) fNotThere fd)
    (aThereAlready : PySem.W.nsIn K mainGlobals "ThereAlready" = some (some (.ref cThereAlready)))
    (eThereAlready : ExB K cThereAlready R)
    (oThereAlready : Oex K cThereAlready)
    (iThereAlready : PySem.W.findIn K (.ref cThereAlready) "__init__" = some (some (.ref fThereAlready)))
    (tThereAlready : PySem.W.typeIn K (.ref fThereAlready) = some (.type "function"))
    (nThereAlready : PySem.W.findIn K (.ref cThereAlready) "fact" = some none)
    (FThereAlready : ∃ fd, Fun K "__init__" "ThereAlready.__init__" (sIni 23) fThereAlready fd)
    (aBroken : PySem.W.nsIn K mainGlobals "Broken" = some (some (.ref cBroken)))
    (eBroken : ExB K cBroken R)
    (oBroken : Oex K cBroken)
    (iBroken : PySem.W.findIn K (.ref cBroken) "__init__" = some (some (.ref fBroken)))
    (tBroken : PySem.W.typeIn K (.ref fBroken) = some (.type "function"))
    (nBroken : PySem.W.findIn K (.ref cBroken) "index" = some none)
    (mBroken : PySem.W.findIn K (.ref cBroken) "shown" = some none)
    (FBroken : ∃ fd, Fun K "__init__" "Broken.__init__" (sIni 9) fBroken fd)
    (nd : ([R, cBadText, cBadKey, cBadRule, cClash, cBadNodes, cBadNames, cOrBelow, cNothingToUndo, cNothingToRedo, cBadFact, cBadPattern, cBadLine, cLoose, cNothingNew, cBadNode, cBadPart, cNoPart, cBadStrike, cNotAnAnswer, cBadQuestion, cNoName, cNotThere, cThereAlready, cBroken] : List Addr).Nodup)
    (zi : PySem.W.nsIn K mainGlobals "isinstance" = some none)
    (zl : PySem.W.nsIn K mainGlobals "len" = some none)
    (zr : PySem.W.nsIn K mainGlobals "repr" = some none)
    (zv : PySem.W.nsIn K mainGlobals "ValueError" = some none)
    (zn : PySem.W.nsIn K mainGlobals "int" = some none)
    (bS : PySem.W.nsIn K mainGlobals "_law_source" = some (some (.ref gS)))
    (FS : ∃ fd, Fun K "_law_source" "_law_source" sSource gS fd)
    (bD : PySem.W.nsIn K mainGlobals "_law_draw" = some (some (.ref gD)))
    (FD : ∃ fd, Fun K "_law_draw" "_law_draw" sDraw gD fd)
    (bV : PySem.W.nsIn K mainGlobals "_law_value" = some (some (.ref gV)))
    (FV : ∃ fd, Fun K "_law_value" "_law_value" sValue gV fd)
    (bM : PySem.W.nsIn K mainGlobals "_law_made" = some (some (.ref gM)))
    (FM : ∃ fd, Fun K "_law_made" "_law_made" sMade gM fd)
    (bK : PySem.W.nsIn K mainGlobals "_law_kept" = some (some (.ref gK)))
    (FK : ∃ fd, Fun K "_law_kept" "_law_kept" sKept gK fd)
    (bC : PySem.W.nsIn K mainGlobals "_law_classes" = some (some (.ref gC)))
    (FC : ∃ fd, Fun K "_law_classes" "_law_classes" sClasses gC fd)
    (bL : PySem.W.nsIn K mainGlobals "law" = some (some (.ref gL)))
    (FL : ∃ fd, Fun K "law" "law" sLaw gL fd)
    : ∃ fd : FuncData, (∀ (s : Shared) (v : Value), BindsTo s fd ⟨[v], []⟩ [("_law_script", v)]) ∧
      ∀ base : Heap, K.In base → base.Ns mainGlobals mg → FnG P w K mg base CX0 4 fa fd ["_law_script"] (spLaw K) := by
  have e := hfa.symm.trans (PySem.W.mg_of X G bL)
  cases e
  obtain ⟨dBadFact, FBadFact⟩ := FBadFact
  obtain ⟨dBadPattern, FBadPattern⟩ := FBadPattern
  obtain ⟨dBadLine, FBadLine⟩ := FBadLine
  obtain ⟨dLoose, FLoose⟩ := FLoose
  obtain ⟨dNothingNew, FNothingNew⟩ := FNothingNew
  obtain ⟨dBadNode, FBadNode⟩ := FBadNode
  obtain ⟨dBadPart, FBadPart⟩ := FBadPart
  obtain ⟨dNoPart, FNoPart⟩ := FNoPart
  obtain ⟨dBadStrike, FBadStrike⟩ := FBadStrike
  obtain ⟨dNotAnAnswer, FNotAnAnswer⟩ := FNotAnAnswer
  obtain ⟨dBadQuestion, FBadQuestion⟩ := FBadQuestion
  obtain ⟨dNoName, FNoName⟩ := FNoName
  obtain ⟨dNotThere, FNotThere⟩ := FNotThere
  obtain ⟨dThereAlready, FThereAlready⟩ := FThereAlready
  obtain ⟨dBroken, FBroken⟩ := FBroken
  obtain ⟨dS, FS⟩ := FS
  obtain ⟨dD, FD⟩ := FD
  obtain ⟨dV, FV⟩ := FV
  obtain ⟨dM, FM⟩ := FM
  obtain ⟨dK, FK⟩ := FK
  obtain ⟨dC, FC⟩ := FC
  obtain ⟨dL, FL⟩ := FL
  let A : Ads := { cBadText := cBadText, cBadKey := cBadKey, cBadRule := cBadRule, cClash := cClash, cBadNodes := cBadNodes, cBadNames := cBadNames, cOrBelow := cOrBelow, cNothingToUndo := cNothingToUndo, cNothingToRedo := cNothingToRedo, cBadFact := cBadFact, cBadPattern := cBadPattern, cBadLine := cBadLine, cLoose := cLoose, cNothingNew := cNothingNew, cBadNode := cBadNode, cBadPart := cBadPart, cNoPart := cNoPart, cBadStrike := cBadStrike, cNotAnAnswer := cNotAnAnswer, cBadQuestion := cBadQuestion, cNoName := cNoName, cNotThere := cNotThere, cThereAlready := cThereAlready, cBroken := cBroken, fBadFact := fBadFact, fBadPattern := fBadPattern, fBadLine := fBadLine, fLoose := fLoose, fNothingNew := fNothingNew, fBadNode := fBadNode, fBadPart := fBadPart, fNoPart := fNoPart, fBadStrike := fBadStrike, fNotAnAnswer := fNotAnAnswer, fBadQuestion := fBadQuestion, fNoName := fNoName, fNotThere := fNotThere, fThereAlready := fThereAlready, fBroken := fBroken, dBadFact := dBadFact, dBadPattern := dBadPattern, dBadLine := dBadLine, dLoose := dLoose, dNothingNew := dNothingNew, dBadNode := dBadNode, dBadPart := dBadPart, dNoPart := dNoPart, dBadStrike := dBadStrike, dNotAnAnswer := dNotAnAnswer, dBadQuestion := dBadQuestion, dNoName := dNoName, dNotThere := dNotThere, dThereAlready := dThereAlready, dBroken := dBroken }
  have eA : A.all = [cBadText, cBadKey, cBadRule, cClash, cBadNodes, cBadNames, cOrBelow, cNothingToUndo, cNothingToRedo, cBadFact, cBadPattern, cBadLine, cLoose, cNothingNew, cBadNode, cBadPart, cNoPart, cBadStrike, cNotAnAnswer, cBadQuestion, cNoName, cNotThere, cThereAlready, cBroken] := rfl
  have iR' : (PySem.W.clsIn K R).isSome = true := iR
  have ndA : (R :: A.all).Nodup := nd
  have each : ∀ C ∈ A.all, ExB K C R := by
    rw [eA]
    intro C hC
    have hm : C = cBadText ∨ C = cBadKey ∨ C = cBadRule ∨ C = cClash ∨ C = cBadNodes ∨ C = cBadNames ∨ C = cOrBelow ∨ C = cNothingToUndo ∨ C = cNothingToRedo ∨ C = cBadFact ∨ C = cBadPattern ∨ C = cBadLine ∨ C = cLoose ∨ C = cNothingNew ∨ C = cBadNode ∨ C = cBadPart ∨ C = cNoPart ∨ C = cBadStrike ∨ C = cNotAnAnswer ∨ C = cBadQuestion ∨ C = cNoName ∨ C = cNotThere ∨ C = cThereAlready ∨ C = cBroken := by simpa using hC
    rcases hm with rfl | rfl | rfl | rfl | rfl | rfl | rfl | rfl | rfl | rfl | rfl | rfl | rfl | rfl | rfl | rfl | rfl | rfl | rfl | rfl | rfl | rfl | rfl | rfl
    all_goals assumption
  have T : Tx K mg A R :=
    { tBadText := cl0_of (PySem.W.mg_of X G aBadText) eBadText xBadText
      tBadKey := cl0_of (PySem.W.mg_of X G aBadKey) eBadKey xBadKey
      tBadRule := cl0_of (PySem.W.mg_of X G aBadRule) eBadRule xBadRule
      tClash := cl0_of (PySem.W.mg_of X G aClash) eClash xClash
      tBadNodes := cl0_of (PySem.W.mg_of X G aBadNodes) eBadNodes xBadNodes
      tBadNames := cl0_of (PySem.W.mg_of X G aBadNames) eBadNames xBadNames
      tOrBelow := cl0_of (PySem.W.mg_of X G aOrBelow) eOrBelow xOrBelow
      tNothingToUndo := cl0_of (PySem.W.mg_of X G aNothingToUndo) eNothingToUndo xNothingToUndo
      tNothingToRedo := cl0_of (PySem.W.mg_of X G aNothingToRedo) eNothingToRedo xNothingToRedo
      tBadFact := cl_BadFact (PySem.W.mg_of X G aBadFact) eBadFact oBadFact iBadFact tBadFact nBadFact FBadFact
      tBadPattern := cl_BadPattern (PySem.W.mg_of X G aBadPattern) eBadPattern oBadPattern iBadPattern tBadPattern nBadPattern FBadPattern
      tBadLine := cl_BadLine (PySem.W.mg_of X G aBadLine) eBadLine oBadLine iBadLine tBadLine nBadLine FBadLine
      tLoose := cl_Loose (PySem.W.mg_of X G aLoose) eLoose oLoose iLoose tLoose nLoose FLoose
      tNothingNew := cl_NothingNew (PySem.W.mg_of X G aNothingNew) eNothingNew oNothingNew iNothingNew tNothingNew nNothingNew FNothingNew
      tBadNode := cl_BadNode (PySem.W.mg_of X G aBadNode) eBadNode oBadNode iBadNode tBadNode nBadNode FBadNode
      tBadPart := cl_BadPart (PySem.W.mg_of X G aBadPart) eBadPart oBadPart iBadPart tBadPart nBadPart FBadPart
      tNoPart := cl_NoPart (PySem.W.mg_of X G aNoPart) eNoPart oNoPart iNoPart tNoPart nNoPart FNoPart
      tBadStrike := cl_BadStrike (PySem.W.mg_of X G aBadStrike) eBadStrike oBadStrike iBadStrike tBadStrike nBadStrike FBadStrike
      tNotAnAnswer := cl_NotAnAnswer (PySem.W.mg_of X G aNotAnAnswer) eNotAnAnswer oNotAnAnswer iNotAnAnswer tNotAnAnswer nNotAnAnswer FNotAnAnswer
      tBadQuestion := cl_BadQuestion (PySem.W.mg_of X G aBadQuestion) eBadQuestion oBadQuestion iBadQuestion tBadQuestion nBadQuestion FBadQuestion
      tNoName := cl_NoName (PySem.W.mg_of X G aNoName) eNoName oNoName iNoName tNoName nNoName FNoName
      tNotThere := cl_NotThere (PySem.W.mg_of X G aNotThere) eNotThere oNotThere iNotThere tNotThere nNotThere FNotThere
      tThereAlready := cl_ThereAlready (PySem.W.mg_of X G aThereAlready) eThereAlready oThereAlready iThereAlready tThereAlready nThereAlready FThereAlready
      tBroken := cl_Broken (PySem.W.mg_of X G aBroken) eBroken oBroken iBroken tBroken nBroken mBroken FBroken
      row := row_of each ndA iR' tR hn ht
      nd := (List.nodup_cons.mp ndA).2
      gR := PySem.W.mg_of X G aR
      gV := PySem.W.mg_none_of X G zv
      gi := PySem.W.mg_none_of X G zi
      gl := PySem.W.mg_none_of X G zl
      gp := PySem.W.mg_none_of X G zr }
  have qS := FS.binds (ps := ["_law_cell"]) fun _ _ _ _ _ _ us hl => match us, hl with | [_], _ => rfl
  have qD := FD.binds (ps := ["_law_source_here", "_law_limit"]) fun _ _ _ _ _ _ us hl => match us, hl with | [_, _], _ => rfl
  have qV := FV.binds (ps := ["_law_source_here"]) fun _ _ _ _ _ _ us hl => match us, hl with | [_], _ => rfl
  have qM := FM.binds (ps := ["_law_one", "_law_two"]) fun _ _ _ _ _ _ us hl => match us, hl with | [_, _], _ => rfl
  have qK := FK.binds (ps := ["_law_one", "_law_two"]) fun _ _ _ _ _ _ us hl => match us, hl with | [_, _], _ => rfl
  have qC := FC.binds (ps := ["_law_e"]) fun _ _ _ _ _ _ us hl => match us, hl with | [_], _ => rfl
  have FL' := FL
  obtain ⟨oc, od, kV, doc, pm, an, cdv, ct, osl, ez, _, _⟩ := FL.ex
  subst ez
  exact ⟨_, fun s v => .of_eq rfl, fun base _ _ => ok_law FL' T FS qS (PySem.W.mg_of X G bS) FD qD (PySem.W.mg_of X G bD) (PySem.W.mg_none_of X G zn)
    FV qV (PySem.W.mg_of X G bV) FM qM (PySem.W.mg_of X G bM) FK qK (PySem.W.mg_of X G bK) FC qC (PySem.W.mg_of X G bC)⟩
theorem walk {l : PySem.W.OpenLaw} {q : Program} {loose : List Str} {XP : (Str → Option Value) → Heap → Prop} {YP : World → Heap → Prop} {d : DefRec} {K : Params → PySem.W.Frag}
    (hn : l.most = some 63) (hdf : d.params.defaults = []) (hY : ∀ (w : World) (h : Heap), YP w h → (K w.params).In h)
    (F : ∀ (w : World) (mg : Str → Option Value) (fa : Addr) (h : Heap), (K w.params).In h → h.Ns mainGlobals mg → mg d.name = some (.ref fa) →
      ∃ fd : FuncData, (∀ (s : Shared) (u : Value), BindsTo s fd ⟨[u], []⟩ [("_law_script", u)]) ∧
        ∀ base : Heap, (K w.params).In base → base.Ns mainGlobals mg → FnG l.prog w (K w.params) mg base CX0 4 fa fd ["_law_script"] (spLaw (K w.params))) :
    PySem.W.WalkO q loose XP YP l.row.toRowW d [] (fun f vs => PySem.call f vs) :=
  walkG (n := 63) (k := 4) (x := "_law_script") (sp := fun w => spLaw (K w.params)) hn (by decide) hdf ⟨rfl, by decide, by decide⟩ hY F
    fun _ _ a ns hl hb _ hS => ⟨a, ns, rfl, hS, hl, hb, fun _ => rfl⟩
end L2.K02
set_option Elab.async false
open PySem PySem.W PyProof.Rows
set_option maxRecDepth 100000 in
set_option maxHeartbeats 0 in
theorem PySem.Challenge.cw_fullestrows_k02_errors_holds : PySem.Challenge.rw_fullestrows_k02_errors.Holds := by
  w_on; o_law; k_head; (case hw => w_witness2)
  k_fill
  refine L2.K02.walk (l := PySem.Challenge.rw_fullestrows_k02_errors) rfl rfl (fun w h Y => PySem.W.kIn_of Y) ?F
  case F =>
    intro w mg fa h KX G hmg
    refine' L2.K02.all_mk KX G hmg ?aR ?iR ?tR ?hn ?ht ?aBadText ?eBadText ?xBadText ?aBadKey ?eBadKey ?xBadKey ?aBadRule ?eBadRule ?xBadRule ?aClash ?eClash ?xClash ?aBadNodes ?eBadNodes ?xBadNodes ?aBadNames ?eBadNames ?xBadNames ?aOrBelow ?eOrBelow ?xOrBelow ?aNothingToUndo ?eNothingToUndo ?xNothingToUndo ?aNothingToRedo ?eNothingToRedo ?xNothingToRedo ?aBadFact ?eBadFact ?oBadFact ?iBadFact ?tBadFact ?nBadFact ?FBadFact ?aBadPattern ?eBadPattern ?oBadPattern ?iBadPattern ?tBadPattern ?nBadPattern ?FBadPattern ?aBadLine ?eBadLine ?oBadLine ?iBadLine ?tBadLine ?nBadLine ?FBadLine ?aLoose ?eLoose ?oLoose ?iLoose ?tLoose ?nLoose ?FLoose ?aNothingNew ?eNothingNew ?oNothingNew ?iNothingNew ?tNothingNew ?nNothingNew ?FNothingNew ?aBadNode ?eBadNode ?oBadNode ?iBadNode ?tBadNode ?nBadNode ?FBadNode ?aBadPart ?eBadPart ?oBadPart ?iBadPart ?tBadPart ?nBadPart ?FBadPart ?aNoPart ?eNoPart ?oNoPart ?iNoPart ?tNoPart ?nNoPart ?FNoPart ?aBadStrike ?eBadStrike ?oBadStrike ?iBadStrike ?tBadStrike ?nBadStrike ?FBadStrike ?aNotAnAnswer ?eNotAnAnswer ?oNotAnAnswer ?iNotAnAnswer ?tNotAnAnswer ?nNotAnAnswer ?FNotAnAnswer ?aBadQuestion ?eBadQuestion ?oBadQuestion ?iBadQuestion ?tBadQuestion ?nBadQuestion ?FBadQuestion ?aNoName ?eNoName ?oNoName ?iNoName ?tNoName ?nNoName ?FNoName ?aNotThere ?eNotThere ?oNotThere ?iNotThere ?tNotThere ?nNotThere ?FNotThere ?aThereAlready ?eThereAlready ?oThereAlready ?iThereAlready ?tThereAlready ?nThereAlready ?FThereAlready ?aBroken ?eBroken ?oBroken ?iBroken ?tBroken ?nBroken ?mBroken ?FBroken ?nd ?zi ?zl ?zr ?zv ?zn ?bS ?FS ?bD ?FD ?bV ?FV ?bM ?FM ?bK ?FK ?bC ?FC ?bL ?FL
    (case aR => k_is)
    (case iR => k_is)
    (case tR => k_is)
    (case hn => k_is)
    (case ht => k_is)
    (case aBadText => k_is)
    (case eBadText => exact ⟨⟨_, by k_is, rfl⟩, by k_is, by k_is, by k_is, by k_is, by k_is, by k_is, by k_is, by k_is, by k_is, by k_is⟩)
    (case xBadText => k_exc)
    (case aBadKey => k_is)
    (case eBadKey => exact ⟨⟨_, by k_is, rfl⟩, by k_is, by k_is, by k_is, by k_is, by k_is, by k_is, by k_is, by k_is, by k_is, by k_is⟩)
    (case xBadKey => k_exc)
    (case aBadRule => k_is)
    (case eBadRule => exact ⟨⟨_, by k_is, rfl⟩, by k_is, by k_is, by k_is, by k_is, by k_is, by k_is, by k_is, by k_is, by k_is, by k_is⟩)
    (case xBadRule => k_exc)
    (case aClash => k_is)
    (case eClash => exact ⟨⟨_, by k_is, rfl⟩, by k_is, by k_is, by k_is, by k_is, by k_is, by k_is, by k_is, by k_is, by k_is, by k_is⟩)
    (case xClash => k_exc)
    (case aBadNodes => k_is)
    (case eBadNodes => exact ⟨⟨_, by k_is, rfl⟩, by k_is, by k_is, by k_is, by k_is, by k_is, by k_is, by k_is, by k_is, by k_is, by k_is⟩)
    (case xBadNodes => k_exc)
    (case aBadNames => k_is)
    (case eBadNames => exact ⟨⟨_, by k_is, rfl⟩, by k_is, by k_is, by k_is, by k_is, by k_is, by k_is, by k_is, by k_is, by k_is, by k_is⟩)
    (case xBadNames => k_exc)
    (case aOrBelow => k_is)
    (case eOrBelow => exact ⟨⟨_, by k_is, rfl⟩, by k_is, by k_is, by k_is, by k_is, by k_is, by k_is, by k_is, by k_is, by k_is, by k_is⟩)
    (case xOrBelow => k_exc)
    (case aNothingToUndo => k_is)
    (case eNothingToUndo => exact ⟨⟨_, by k_is, rfl⟩, by k_is, by k_is, by k_is, by k_is, by k_is, by k_is, by k_is, by k_is, by k_is, by k_is⟩)
    (case xNothingToUndo => k_exc)
    (case aNothingToRedo => k_is)
    (case eNothingToRedo => exact ⟨⟨_, by k_is, rfl⟩, by k_is, by k_is, by k_is, by k_is, by k_is, by k_is, by k_is, by k_is, by k_is, by k_is⟩)
    (case xNothingToRedo => k_exc)
    (case aBadFact => k_is)
    (case eBadFact => exact ⟨⟨_, by k_is, rfl⟩, by k_is, by k_is, by k_is, by k_is, by k_is, by k_is, by k_is, by k_is, by k_is, by k_is⟩)
    (case oBadFact => exact ⟨_, _, _, _, _, _, _, _, _, _, _, _, _, _, _, by k_is, by decide +kernel⟩)
    (case iBadFact => k_is)
    (case tBadFact => k_is)
    (case nBadFact => k_is)
    (case FBadFact => exact ⟨_, L2.fun_mk (by k_is) (by k_is) (by k_is)⟩)
    (case aBadPattern => k_is)
    (case eBadPattern => exact ⟨⟨_, by k_is, rfl⟩, by k_is, by k_is, by k_is, by k_is, by k_is, by k_is, by k_is, by k_is, by k_is, by k_is⟩)
    (case oBadPattern => exact ⟨_, _, _, _, _, _, _, _, _, _, _, _, _, _, _, by k_is, by decide +kernel⟩)
    (case iBadPattern => k_is)
    (case tBadPattern => k_is)
    (case nBadPattern => k_is)
    (case FBadPattern => exact ⟨_, L2.fun_mk (by k_is) (by k_is) (by k_is)⟩)
    (case aBadLine => k_is)
    (case eBadLine => exact ⟨⟨_, by k_is, rfl⟩, by k_is, by k_is, by k_is, by k_is, by k_is, by k_is, by k_is, by k_is, by k_is, by k_is⟩)
    (case oBadLine => exact ⟨_, _, _, _, _, _, _, _, _, _, _, _, _, _, _, by k_is, by decide +kernel⟩)
    (case iBadLine => k_is)
    (case tBadLine => k_is)
    (case nBadLine => k_is)
    (case FBadLine => exact ⟨_, L2.fun_mk (by k_is) (by k_is) (by k_is)⟩)
    (case aLoose => k_is)
    (case eLoose => exact ⟨⟨_, by k_is, rfl⟩, by k_is, by k_is, by k_is, by k_is, by k_is, by k_is, by k_is, by k_is, by k_is, by k_is⟩)
    (case oLoose => exact ⟨_, _, _, _, _, _, _, _, _, _, _, _, _, _, _, by k_is, by decide +kernel⟩)
    (case iLoose => k_is)
    (case tLoose => k_is)
    (case nLoose => k_is)
    (case FLoose => exact ⟨_, L2.fun_mk (by k_is) (by k_is) (by k_is)⟩)
    (case aNothingNew => k_is)
    (case eNothingNew => exact ⟨⟨_, by k_is, rfl⟩, by k_is, by k_is, by k_is, by k_is, by k_is, by k_is, by k_is, by k_is, by k_is, by k_is⟩)
    (case oNothingNew => exact ⟨_, _, _, _, _, _, _, _, _, _, _, _, _, _, _, by k_is, by decide +kernel⟩)
    (case iNothingNew => k_is)
    (case tNothingNew => k_is)
    (case nNothingNew => k_is)
    (case FNothingNew => exact ⟨_, L2.fun_mk (by k_is) (by k_is) (by k_is)⟩)
    (case aBadNode => k_is)
    (case eBadNode => exact ⟨⟨_, by k_is, rfl⟩, by k_is, by k_is, by k_is, by k_is, by k_is, by k_is, by k_is, by k_is, by k_is, by k_is⟩)
    (case oBadNode => exact ⟨_, _, _, _, _, _, _, _, _, _, _, _, _, _, _, by k_is, by decide +kernel⟩)
    (case iBadNode => k_is)
    (case tBadNode => k_is)
    (case nBadNode => k_is)
    (case FBadNode => exact ⟨_, L2.fun_mk (by k_is) (by k_is) (by k_is)⟩)
    (case aBadPart => k_is)
    (case eBadPart => exact ⟨⟨_, by k_is, rfl⟩, by k_is, by k_is, by k_is, by k_is, by k_is, by k_is, by k_is, by k_is, by k_is, by k_is⟩)
    (case oBadPart => exact ⟨_, _, _, _, _, _, _, _, _, _, _, _, _, _, _, by k_is, by decide +kernel⟩)
    (case iBadPart => k_is)
    (case tBadPart => k_is)
    (case nBadPart => k_is)
    (case FBadPart => exact ⟨_, L2.fun_mk (by k_is) (by k_is) (by k_is)⟩)
    (case aNoPart => k_is)
    (case eNoPart => exact ⟨⟨_, by k_is, rfl⟩, by k_is, by k_is, by k_is, by k_is, by k_is, by k_is, by k_is, by k_is, by k_is, by k_is⟩)
    (case oNoPart => exact ⟨_, _, _, _, _, _, _, _, _, _, _, _, _, _, _, by k_is, by decide +kernel⟩)
    (case iNoPart => k_is)
    (case tNoPart => k_is)
    (case nNoPart => k_is)
    (case FNoPart => exact ⟨_, L2.fun_mk (by k_is) (by k_is) (by k_is)⟩)
    (case aBadStrike => k_is)
    (case eBadStrike => exact ⟨⟨_, by k_is, rfl⟩, by k_is, by k_is, by k_is, by k_is, by k_is, by k_is, by k_is, by k_is, by k_is, by k_is⟩)
    (case oBadStrike => exact ⟨_, _, _, _, _, _, _, _, _, _, _, _, _, _, _, by k_is, by decide +kernel⟩)
    (case iBadStrike => k_is)
    (case tBadStrike => k_is)
    (case nBadStrike => k_is)
    (case FBadStrike => exact ⟨_, L2.fun_mk (by k_is) (by k_is) (by k_is)⟩)
    (case aNotAnAnswer => k_is)
    (case eNotAnAnswer => exact ⟨⟨_, by k_is, rfl⟩, by k_is, by k_is, by k_is, by k_is, by k_is, by k_is, by k_is, by k_is, by k_is, by k_is⟩)
    (case oNotAnAnswer => exact ⟨_, _, _, _, _, _, _, _, _, _, _, _, _, _, _, by k_is, by decide +kernel⟩)
    (case iNotAnAnswer => k_is)
    (case tNotAnAnswer => k_is)
    (case nNotAnAnswer => k_is)
    (case FNotAnAnswer => exact ⟨_, L2.fun_mk (by k_is) (by k_is) (by k_is)⟩)
    (case aBadQuestion => k_is)
    (case eBadQuestion => exact ⟨⟨_, by k_is, rfl⟩, by k_is, by k_is, by k_is, by k_is, by k_is, by k_is, by k_is, by k_is, by k_is, by k_is⟩)
    (case oBadQuestion => exact ⟨_, _, _, _, _, _, _, _, _, _, _, _, _, _, _, by k_is, by decide +kernel⟩)
    (case iBadQuestion => k_is)
    (case tBadQuestion => k_is)
    (case nBadQuestion => k_is)
    (case FBadQuestion => exact ⟨_, L2.fun_mk (by k_is) (by k_is) (by k_is)⟩)
    (case aNoName => k_is)
    (case eNoName => exact ⟨⟨_, by k_is, rfl⟩, by k_is, by k_is, by k_is, by k_is, by k_is, by k_is, by k_is, by k_is, by k_is, by k_is⟩)
    (case oNoName => exact ⟨_, _, _, _, _, _, _, _, _, _, _, _, _, _, _, by k_is, by decide +kernel⟩)
    (case iNoName => k_is)
    (case tNoName => k_is)
    (case nNoName => k_is)
    (case FNoName => exact ⟨_, L2.fun_mk (by k_is) (by k_is) (by k_is)⟩)
    (case aNotThere => k_is)
    (case eNotThere => exact ⟨⟨_, by k_is, rfl⟩, by k_is, by k_is, by k_is, by k_is, by k_is, by k_is, by k_is, by k_is, by k_is, by k_is⟩)
    (case oNotThere => exact ⟨_, _, _, _, _, _, _, _, _, _, _, _, _, _, _, by k_is, by decide +kernel⟩)
    (case iNotThere => k_is)
    (case tNotThere => k_is)
    (case nNotThere => k_is)
    (case FNotThere => exact ⟨_, L2.fun_mk (by k_is) (by k_is) (by k_is)⟩)
    (case aThereAlready => k_is)
    (case eThereAlready => exact ⟨⟨_, by k_is, rfl⟩, by k_is, by k_is, by k_is, by k_is, by k_is, by k_is, by k_is, by k_is, by k_is, by k_is⟩)
    (case oThereAlready => exact ⟨_, _, _, _, _, _, _, _, _, _, _, _, _, _, _, by k_is, by decide +kernel⟩)
    (case iThereAlready => k_is)
    (case tThereAlready => k_is)
    (case nThereAlready => k_is)
    (case FThereAlready => exact ⟨_, L2.fun_mk (by k_is) (by k_is) (by k_is)⟩)
    (case aBroken => k_is)
    (case eBroken => exact ⟨⟨_, by k_is, rfl⟩, by k_is, by k_is, by k_is, by k_is, by k_is, by k_is, by k_is, by k_is, by k_is, by k_is⟩)
    (case oBroken => exact ⟨_, _, _, _, _, _, _, _, _, _, _, _, _, _, _, by k_is, by decide +kernel⟩)
    (case iBroken => k_is)
    (case tBroken => k_is)
    (case nBroken => k_is)
    (case mBroken => k_is)
    (case FBroken => exact ⟨_, L2.fun_mk (by k_is) (by k_is) (by k_is)⟩)
    (case nd => decide)
    (case zi => k_is)
    (case zl => k_is)
    (case zr => k_is)
    (case zv => k_is)
    (case zn => k_is)
    (case bS => k_is)
    (case FS => exact ⟨_, L2.fun_mk (by k_is) (by k_is) (by k_is)⟩)
    (case bD => k_is)
    (case FD => exact ⟨_, L2.fun_mk (by k_is) (by k_is) (by k_is)⟩)
    (case bV => k_is)
    (case FV => exact ⟨_, L2.fun_mk (by k_is) (by k_is) (by k_is)⟩)
    (case bM => k_is)
    (case FM => exact ⟨_, L2.fun_mk (by k_is) (by k_is) (by k_is)⟩)
    (case bK => k_is)
    (case FK => exact ⟨_, L2.fun_mk (by k_is) (by k_is) (by k_is)⟩)
    (case bC => k_is)
    (case FC => exact ⟨_, L2.fun_mk (by k_is) (by k_is) (by k_is)⟩)
    (case bL => k_is)
    (case FL => exact ⟨_, L2.fun_mk (by k_is) (by k_is) (by k_is)⟩)
